package rules

import (
	"livery/api"
	"livery/audit"
	"livery/chain"
	"livery/cred"
	"livery/fed"
	"livery/gate"
	"livery/journal"
	"livery/lease"
	"livery/lines"
	"livery/mac"
	"livery/msg"
	"livery/names"
	"livery/node"
	"livery/proof"
	"livery/revset"
	"livery/roads"
	"livery/sha"
	"livery/solve"
	"livery/store"
	"livery/sums"
	"livery/tape"
	"livery/ticks"
	"livery/timers"
	"livery/token"
	"livery/vector"
	"livery/wire"
)

// The calls that the chapters list: where one has another signature, these do not compile.
var (
	_ func([]byte) []byte = sha.Sum
	_ func([]byte) string = sha.Hex

	_ func([]byte, ...[]byte) []byte       = mac.Tag
	_ func([]byte, []byte, ...[]byte) bool = mac.Right
	_ func([]byte, string, int) []byte     = mac.Key

	_ func([]byte, int) []byte         = wire.Number
	_ func([]byte, string) []byte      = wire.Text
	_ func([]byte) *wire.Cursor        = wire.New
	_ func(*wire.Cursor, int, int) int = (*wire.Cursor).Number
	_ func(*wire.Cursor, int) string   = (*wire.Cursor).Text
	_ func(*wire.Cursor, api.Errno)    = (*wire.Cursor).Fail
	_ func(*wire.Cursor) api.Errno     = (*wire.Cursor).Err
	_ func(*wire.Cursor) api.Errno     = (*wire.Cursor).End
	_ func(*wire.Cursor) int           = (*wire.Cursor).Place

	_ func(string) bool                  = names.May
	_ func(int) string                   = names.Domain
	_ func(string) int                   = names.Number
	_ func(api.Role) bool                = names.Role
	_ func(api.Role) string              = names.Text
	_ func(string) (api.Role, api.Errno) = names.Read
	_ func(api.Role, api.Role) bool      = names.Less

	_ func(api.Cred) bool                        = cred.May
	_ func(api.Cred) api.Role                    = cred.Role
	_ func(api.Cred) (string, api.Errno)         = cred.Text
	_ func([]byte, api.Cred) ([]byte, api.Errno) = cred.Put
	_ func(*wire.Cursor) api.Cred                = cred.Read
	_ func(api.ID, api.ID) bool                  = cred.Before
	_ func([]api.Cred) []api.Cred                = cred.Sorted
	_ func([]api.Cred) []api.Cred                = cred.Counts

	_ = struct {
		Role api.Role
		Who  string
	}(solve.Pair{})
	_ func([]api.Cred) []solve.Pair           = solve.All
	_ func([]api.Cred, string, api.Role) bool = solve.Has
	_ func([]api.Cred, api.Role) []string     = solve.Members

	_ func([]api.Cred, api.Proof) api.Errno = proof.Check
	_ func(api.Proof) []api.ID              = proof.Support
	_ func(api.Proof) int                   = proof.Size
	_ func(api.Proof, api.Proof) bool       = proof.Same
	_ func(api.Proof, int) bool             = proof.Within

	_ func([]api.Cred, string, api.Role) (api.Proof, api.Errno)  = chain.Find
	_ func([]api.Cred, string, api.Role) int                     = chain.Round
	_ func([]api.Cred, string, []api.Role) ([]api.ID, api.Errno) = chain.Support

	_ func(int, int) int  = ticks.Add
	_ func(int, int) bool = ticks.Over
	_ func([]int) int     = ticks.Least
	_ func(int, int) int  = ticks.Goes
	_ func(int) int       = ticks.Bound

	_ func([]int) bool                        = vector.May
	_ func([]int) []int                       = vector.Bare
	_ func([]int, int) int                    = vector.Get
	_ func([]int, int, int) []int             = vector.With
	_ func([]int, []int) []int                = vector.Join
	_ func([]int, []int) bool                 = vector.Covers
	_ func([]byte, []int) ([]byte, api.Errno) = vector.Put
	_ func(*wire.Cursor) []int                = vector.Read

	_ func() *revset.Set                    = revset.New
	_ func(*revset.Set, api.ID) api.Errno   = (*revset.Set).Add
	_ func(*revset.Set, api.ID) bool        = (*revset.Set).Has
	_ func(*revset.Set, int) []int          = (*revset.Set).Row
	_ func(*revset.Set) []int               = (*revset.Set).Vector
	_ func(*revset.Set, []int) [][]int      = (*revset.Set).Delta
	_ func(*revset.Set, []int, [][]int) int = (*revset.Set).Merge
	_ func(*revset.Set) *revset.Set         = (*revset.Set).Copy

	_ func(api.Token) bool                               = token.May
	_ func([]byte, api.Token) (api.Token, api.Errno)     = token.Mint
	_ func(api.Token, api.Caveat) (api.Token, api.Errno) = token.Narrow
	_ func([]byte, api.Token) api.Errno                  = token.Verify
	_ func(api.Token) []api.Role                         = token.Roles
	_ func(api.Token) int                                = token.Until
	_ func(api.Token, api.Role, string, int) api.Errno   = token.Allows
	_ func([]byte, api.Token) ([]byte, api.Errno)        = token.Put
	_ func(*wire.Cursor) api.Token                       = token.Read

	_ func(int) *lease.Book                             = lease.New
	_ func(*lease.Book, int, []api.Cred, int) api.Errno = (*lease.Book).Learn
	_ func(*lease.Book, int, int) api.Errno             = (*lease.Book).Hear
	_ func(*lease.Book, int) []api.Held                 = (*lease.Book).Held
	_ func(*lease.Book, []api.ID, int) (int, api.Errno) = (*lease.Book).Until
	_ func(*lease.Book, int, int) bool                  = (*lease.Book).Fresh
	_ func(*lease.Book, []api.ID, int) bool             = (*lease.Book).Stale

	_                                               = struct{ Due, Kind int }(timers.Timer{})
	_ func() *timers.Queue                          = timers.New
	_ func(*timers.Queue, int, int) api.Errno       = (*timers.Queue).Set
	_ func(*timers.Queue, int) bool                 = (*timers.Queue).Stop
	_ func(*timers.Queue) int                       = (*timers.Queue).Len
	_ func(*timers.Queue) (timers.Timer, bool)      = (*timers.Queue).First
	_ func(*timers.Queue, int) (timers.Timer, bool) = (*timers.Queue).Pop
	_ func(*timers.Queue) []timers.Timer            = (*timers.Queue).All

	_ func([]byte) int      = sums.Sum
	_ func(int, []byte) int = sums.More
	_ func(int) []byte      = sums.Put

	_ func() *tape.Tape                         = tape.New
	_ func(*tape.Tape, int, []byte) api.Errno   = (*tape.Tape).Write
	_ func(*tape.Tape, int) api.Errno           = (*tape.Tape).Clear
	_ func(*tape.Tape, int, int) api.Errno      = (*tape.Tape).Trim
	_ func(*tape.Tape) api.Errno                = (*tape.Tape).Sync
	_ func(*tape.Tape, int) ([]byte, api.Errno) = (*tape.Tape).Read
	_ func(*tape.Tape, int) api.Errno           = (*tape.Tape).Fuse
	_ func(*tape.Tape, int)                     = (*tape.Tape).Crash
	_ func(*tape.Tape) int                      = (*tape.Tape).Units

	_ func(*tape.Tape) (*journal.Journal, api.Errno) = journal.Open
	_ func(*journal.Journal, []byte) api.Errno       = (*journal.Journal).Append
	_ func(*journal.Journal, [][]byte) api.Errno     = (*journal.Journal).Renew
	_ func(*journal.Journal) [][]byte                = (*journal.Journal).Records
	_ func(*journal.Journal) int                     = (*journal.Journal).Size
	_ func(*journal.Journal) int                     = (*journal.Journal).Generation

	_ func(*tape.Tape, int) (*store.Store, api.Errno) = store.Open
	_ func(*store.Store, api.Cred) (int, api.Errno)   = (*store.Store).Add
	_ func(*store.Store, int) api.Errno               = (*store.Store).Revoke
	_ func(*store.Store) (int, api.Errno)             = (*store.Store).Take
	_ func(*store.Store) (int, api.Errno)             = (*store.Store).Rotate
	_ func(*store.Store) []api.Cred                   = (*store.Store).Creds
	_ func(*store.Store) []int                        = (*store.Store).Row
	_ func(*store.Store) int                          = (*store.Store).Epoch
	_ func(*store.Store) int                          = (*store.Store).Last

	_ = struct {
		Domain, Epoch, Now, Started int
		Again                       bool
		Own                         []api.Cred
		Book                        *lease.Book
		Gone                        *revset.Set
	}(gate.View{})
	_ func(gate.View) api.Errno                                      = gate.Open
	_ func(gate.View) []api.Cred                                     = gate.Holds
	_ func(gate.View, string, []api.Role) (api.Token, api.Errno)     = gate.Issue
	_ func(gate.View, []byte, api.Token, api.Role, string) api.Errno = gate.Verify

	_ func([]byte, int, int) []byte             = msg.Link
	_ func([]byte, api.Msg) ([]byte, api.Errno) = msg.Put
	_ func([]byte, []byte) (api.Msg, api.Errno) = msg.Open

	_ = struct {
		To   int
		Data []byte
	}(node.Packet{})
	_ func(int, int, []byte, []byte, *tape.Tape, int, bool) (*node.Node, api.Errno) = node.New
	_ func(*node.Node, int) []node.Packet                                           = (*node.Node).Pass
	_ func(*node.Node, []byte) []node.Packet                                        = (*node.Node).Receive
	_ func(*node.Node, api.Call) (api.Reply, []node.Packet)                         = (*node.Node).Ask
	_ func(*node.Node) bool                                                         = (*node.Node).Down
	_ func(*node.Node) int                                                          = (*node.Node).Now
	_ func(*node.Node) []api.Cred                                                   = (*node.Node).Creds
	_ func(*node.Node, int) []int                                                   = (*node.Node).Row
	_ func(*node.Node) []api.Held                                                   = (*node.Node).Held

	_ func(int) *roads.World                                 = roads.New
	_ func(*roads.World, int, []int) []int                   = (*roads.World).Pass
	_ func(*roads.World) int                                 = (*roads.World).Time
	_ func(*roads.World, int) int                            = (*roads.World).Clock
	_ func(*roads.World, int, []byte) api.Errno              = (*roads.World).Send
	_ func(*roads.World) int                                 = (*roads.World).Len
	_ func(*roads.World, int, bool) (int, []byte, api.Errno) = (*roads.World).Take
	_ func(*roads.World, int) api.Errno                      = (*roads.World).Drop

	_ func(int, []byte) (*fed.Fed, api.Errno) = fed.New
	_ func(*fed.Fed, api.Step) api.Errno      = (*fed.Fed).Do
	_ func(*fed.Fed) []api.Event              = (*fed.Fed).History
	_ func(*fed.Fed, int) bool                = (*fed.Fed).Up
	_ func(*fed.Fed) int                      = (*fed.Fed).Time
	_ func(*fed.Fed, int) int                 = (*fed.Fed).Clock
	_ func(*fed.Fed) int                      = (*fed.Fed).Packets
	_ func(*fed.Fed, int) []api.Cred          = (*fed.Fed).Creds
	_ func(*fed.Fed, int, int) []int          = (*fed.Fed).Row
	_ func(*fed.Fed, int) []api.Held          = (*fed.Fed).Held

	_ func([]api.Event) (int, api.Errno) = audit.Check

	_ func(string) ([]api.Step, int, api.Errno)          = lines.Parse
	_ func([]api.Step) (string, api.Errno)               = lines.Print
	_ func(api.Event) string                             = lines.Show
	_ func(int, []byte, string) (string, int, api.Errno) = lines.Run
)
