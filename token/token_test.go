package token_test

import (
	"bytes"
	"crypto/hmac"
	"crypto/sha256"
	"math"
	"math/rand"
	"regexp"
	"slices"
	"strconv"
	"strings"
	"testing"

	"livery/api"
	"livery/token"
)

// The chapter's bounds, written out.
const (
	domains  = 16
	epochs   = 1000
	greatest = 1 << 40 // of a Number, and of a tick
	seqs     = 4000
	mostRole = 4
	mostID   = 64
	mostCut  = 6
	tagSize  = 32
)

var (
	aName   = regexp.MustCompile(`\A[a-z][a-z0-9]{0,7}\z`)
	aDomain = regexp.MustCompile(`\Ad([1-9]|1[0-6])\z`)
)

// someNames are names, and noNames are strings that are none.
var (
	someNames = []string{"a", "z", "a0", "z9", "ab", "ann", "d1", "d16", "abcdefgh", "z9999999"}
	noNames   = []string{"", "A", "1", "1a", "aB", "a.b", "a ", " a", "a-b", "\x00", "a\x00", "\xff", "a\xff", "é", "aé", "d1.a", "abcdefgH", "a,b", "`", "{", "a/", "a:", "abcdefghi", "a23456789", strings.Repeat("a", 300)}
)

// roleOf is a role of a domain.
func roleOf(n int, name string) api.Role {
	return api.Role{Owner: "d" + strconv.Itoa(n), Name: name}
}

// isRole reports whether r is a role.
func isRole(r api.Role) bool {
	return aDomain.MatchString(r.Owner) && aName.MatchString(r.Name)
}

// between reports whether n is least to most.
func between(n, least, most int) bool {
	return n >= least && n <= most
}

// areRoles reports whether l may be the Roles of a token, but for their number being 0.
func areRoles(l []api.Role) bool {
	for i, r := range l {
		for _, earlier := range l[:i] {
			if earlier.Owner > r.Owner || earlier.Owner == r.Owner && earlier.Name >= r.Name {
				return false
			}
		}
		if !isRole(r) {
			return false
		}
	}
	return len(l) <= mostRole
}

// areIDs reports whether l may be the Support of a token.
func areIDs(l []api.ID) bool {
	for i, id := range l {
		for _, earlier := range l[:i] {
			if earlier.Domain > id.Domain || earlier.Domain == id.Domain && earlier.Seq >= id.Seq {
				return false
			}
		}
		if !between(id.Domain, 1, domains) || !between(id.Seq, 1, seqs) {
			return false
		}
	}
	return len(l) <= mostID
}

// isCaveat is what the chapter says of a valid caveat, said in another way.
func isCaveat(c api.Caveat) bool {
	ok := map[int]bool{
		1: areRoles(c.Roles) && c.Until == 0 && len(c.Aud) == 0,
		2: len(c.Roles) == 0 && between(c.Until, 0, greatest) && len(c.Aud) == 0,
		3: len(c.Roles) == 0 && c.Until == 0 && aName.MatchString(c.Aud),
	}
	return ok[c.Kind]
}

// isToken is what the chapter says of a valid token.
func isToken(t api.Token) bool {
	for _, c := range t.Caveats {
		if !isCaveat(c) {
			return false
		}
	}
	return between(t.Domain, 1, domains) && between(t.Epoch, 1, epochs) && between(t.Number, 1, greatest) && aName.MatchString(t.Who) &&
		len(t.Roles) >= 1 && areRoles(t.Roles) && between(t.Until, 0, greatest) && areIDs(t.Support) && len(t.Caveats) <= mostCut && len(t.Tag) == tagSize
}

// hmacOf is a tag that another implementation computes.
func hmacOf(key, data []byte) []byte {
	h := hmac.New(sha256.New, key)
	h.Write(data)
	return h.Sum(nil)
}

// tagsOf is the sequence of the tags of a token for a key.
func tagsOf(key []byte, t api.Token) [][]byte {
	all := [][]byte{hmacOf(key, headOf(t))}
	for i, c := range t.Caveats {
		all = append(all, hmacOf(all[i], caveatOf(c)))
	}
	return all
}

// tagged is a token with its last tag for a key.
func tagged(key []byte, t api.Token) api.Token {
	t.Tag = tagsOf(key, t)[len(t.Caveats)]
	return t
}

// deep is a copy of a token in new memory.
func deep(t api.Token) api.Token {
	t.Roles, t.Support, t.Tag = slices.Clone(t.Roles), slices.Clone(t.Support), slices.Clone(t.Tag)
	t.Caveats = slices.Clone(t.Caveats)
	for i := range t.Caveats {
		t.Caveats[i].Roles = slices.Clone(t.Caveats[i].Roles)
	}
	return t
}

// sameCaveat reports whether two caveats are equal; nil and empty lists are.
func sameCaveat(a, b api.Caveat) bool {
	return a.Kind == b.Kind && slices.Equal(a.Roles, b.Roles) && a.Until == b.Until && a.Aud == b.Aud
}

// same reports whether two tokens are equal, in all fields.
func same(a, b api.Token) bool {
	return a.Domain == b.Domain && a.Epoch == b.Epoch && a.Number == b.Number && a.Who == b.Who && slices.Equal(a.Roles, b.Roles) &&
		a.Until == b.Until && slices.Equal(a.Support, b.Support) && slices.EqualFunc(a.Caveats, b.Caveats, sameCaveat) && bytes.Equal(a.Tag, b.Tag)
}

// zero reports whether t is the zero token.
func zero(t api.Token) bool {
	return same(t, api.Token{})
}

// manyRoles are so many roles in ascending order, at most 80.
func manyRoles(n int) []api.Role {
	var l []api.Role
	for _, owner := range []int{1, 10, 16, 2, 9} { // the order of their names
		for _, name := range []string{"a", "a0", "aa", "b", "b1", "b10", "b2", "c", "d", "e", "f", "g", "h", "i", "j", "k"} {
			l = append(l, roleOf(owner, name))
		}
	}
	return l[:n]
}

// manyIDs are so many IDs in ascending order, at most 96.
func manyIDs(n int) []api.ID {
	var l []api.ID
	for domain := 1; domain <= domains; domain++ {
		for _, seq := range []int{1, 2, 255, 256, 3999, seqs} {
			l = append(l, api.ID{Domain: domain, Seq: seq})
		}
	}
	return l[:n]
}

// The three kinds of caveats.
func cutRoles(l ...api.Role) api.Caveat { return api.Caveat{Kind: 1, Roles: l} }
func cutUntil(n int) api.Caveat         { return api.Caveat{Kind: 2, Until: n} }
func cutFor(aud string) api.Caveat      { return api.Caveat{Kind: 3, Aud: aud} }

// example is the chapter's token, ahead of Mint.
func example() api.Token {
	return api.Token{Domain: 1, Epoch: 1, Number: 1, Who: "ann", Roles: []api.Role{roleOf(1, "a"), roleOf(1, "b")}, Until: 40}
}

// full is a valid token that has as much as there may be.
func full() api.Token {
	return tagged([]byte("key"), api.Token{Domain: domains, Epoch: epochs, Number: greatest, Who: "abcdefgh", Roles: []api.Role{roleOf(1, "abcdefgh"), roleOf(16, "z9999999"), roleOf(2, "a"), roleOf(9, "b")}, Until: greatest, Support: manyIDs(mostID), Caveats: []api.Caveat{
		cutRoles(roleOf(1, "abcdefgh"), roleOf(16, "z9999999"), roleOf(2, "a"), roleOf(9, "b")), cutUntil(greatest), cutFor("z9999999"), cutRoles(), cutUntil(0), cutFor("a")}})
}

// bases are a few valid tokens.
func bases() []api.Token {
	plain := tagged([]byte("k"), example())
	middle := api.Token{Domain: 7, Epoch: 256, Number: 70000, Who: "bob2", Roles: []api.Role{roleOf(1, "r")}, Until: 300, Support: []api.ID{{Domain: 1, Seq: 2}, {Domain: 2, Seq: 1}, {Domain: 2, Seq: 300}}, Caveats: []api.Caveat{cutUntil(30), cutRoles(roleOf(1, "r"), roleOf(3, "s"))}}
	return []api.Token{plain, tagged(nil, middle), full()}
}

// someCaveats are valid caveats, at their bounds.
func someCaveats() []api.Caveat {
	list := []api.Caveat{cutRoles(), {Kind: 1, Roles: []api.Role{}}, cutRoles(roleOf(1, "a")), cutRoles(roleOf(1, "b")), cutRoles(roleOf(1, "a"), roleOf(1, "b")), cutRoles(roleOf(16, "a"), roleOf(2, "a")), {Kind: 2, Roles: []api.Role{}}, {Kind: 3, Roles: []api.Role{}, Aud: "d2"}}
	for n := range mostRole + 1 {
		list = append(list, cutRoles(manyRoles(n)...), cutRoles(manyRoles(20)[20-n:]...))
	}
	for _, n := range []int{0, 1, 2, 29, 30, 31, 255, 256, 1 << 32, greatest - 1, greatest} {
		list = append(list, cutUntil(n))
	}
	for _, s := range someNames {
		list = append(list, cutFor(s))
	}
	return list
}

// noCaveats are caveats that are not valid, each with one fault.
func noCaveats() []api.Caveat {
	list := []api.Caveat{{}}
	for _, n := range []int{math.MinInt, -3, -2, -1, 0, 4, 5, 256, 257, 258, 259, 1<<32 + 1, 1<<32 + 2, 1<<32 + 3, math.MaxInt} {
		list = append(list, api.Caveat{Kind: n}, api.Caveat{Kind: n, Roles: manyRoles(1)}, api.Caveat{Kind: n, Until: 3}, api.Caveat{Kind: n, Aud: "a"})
	}
	for _, l := range noRoleLists() {
		list = append(list, cutRoles(l...))
	}
	for _, n := range noTicks() {
		list = append(list, cutUntil(n))
	}
	for _, s := range noNames {
		list = append(list, cutFor(s))
	}
	for _, n := range []int{math.MinInt, -1, 1, 30, greatest, math.MaxInt} {
		list = append(list, api.Caveat{Kind: 1, Roles: manyRoles(2), Until: n}, api.Caveat{Kind: 1, Until: n}, api.Caveat{Kind: 3, Aud: "a", Until: n})
	}
	for _, s := range []string{"a", "d2", "A", " ", "\x00"} {
		list = append(list, api.Caveat{Kind: 1, Roles: manyRoles(2), Aud: s}, api.Caveat{Kind: 1, Aud: s}, api.Caveat{Kind: 2, Until: 3, Aud: s}, api.Caveat{Kind: 2, Aud: s})
	}
	for _, l := range [][]api.Role{{{}}, manyRoles(1), manyRoles(4), manyRoles(5)} {
		list = append(list, api.Caveat{Kind: 2, Until: 3, Roles: l}, api.Caveat{Kind: 2, Roles: l}, api.Caveat{Kind: 3, Aud: "a", Roles: l})
	}
	return list
}

// noTicks are numbers that are no ticks.
func noTicks() []int {
	return []int{math.MinInt, math.MinInt + 1, -greatest, -1 << 32, -2, -1, greatest + 1, greatest + 2, 1 << 41, math.MaxInt - 1, math.MaxInt}
}

// noRoleLists are lists of roles that no token and no caveat has.
func noRoleLists() [][]api.Role {
	a, b, c := roleOf(1, "a"), roleOf(1, "b"), roleOf(2, "a")
	lists := [][]api.Role{manyRoles(5), manyRoles(6), manyRoles(80), {a, a}, {b, a}, {c, a}, {a, b, b}, {a, a, b}, {a, c, b}, {b, a, c}, {c, b, a}, {a, b, a}, {a, b, c, a}, {roleOf(1, "aa"), a}, {c, roleOf(16, "a")}, {roleOf(9, "a"), roleOf(10, "a")}, {a, b, c, c}, {a, a, b, c}, {a, a, a, a, a}}
	none := []api.Role{{}, {Owner: "d1"}, {Name: "a"}}
	for _, s := range []string{"", "d", "d0", "d17", "d01", "D1", "x", "a", "1", "d1 ", " d1", "d1.a", "d-1", "d1\x00"} {
		none = append(none, api.Role{Owner: s, Name: "a"})
	}
	for _, s := range noNames {
		none = append(none, api.Role{Owner: "d1", Name: s})
	}
	for _, r := range none {
		lists = append(lists, []api.Role{r}, []api.Role{a, r}, []api.Role{r, c}, []api.Role{a, b, r, c})
	}
	return lists
}

// noIDLists are lists of IDs that no token has.
func noIDLists() [][]api.ID {
	a, b, c := api.ID{Domain: 1, Seq: 1}, api.ID{Domain: 1, Seq: 2}, api.ID{Domain: 2, Seq: 1}
	lists := [][]api.ID{manyIDs(65), manyIDs(66), manyIDs(96), {a, a}, {b, a}, {c, a}, {c, b}, {a, b, b}, {a, a, b}, {a, c, b}, {b, a, c}, {c, b, a}, {a, b, a}, {{Domain: 1, Seq: 256}, {Domain: 1, Seq: 255}}, {{Domain: 16, Seq: 1}, {Domain: 2, Seq: 4000}}}
	for _, i := range []int{0, 1, 31, 62} {
		swapped, twice := manyIDs(mostID), manyIDs(mostID)
		swapped[i], swapped[i+1] = swapped[i+1], swapped[i]
		twice[i] = twice[i+1]
		lists = append(lists, swapped, twice)
	}
	var none []api.ID
	for _, n := range []int{math.MinInt, -1, 0, 17, 18, 257, 1<<32 + 1, math.MaxInt} {
		none = append(none, api.ID{Domain: n, Seq: 1})
	}
	for _, n := range []int{math.MinInt, -1, 0, 4001, 4002, 1<<16 + 1, 1<<32 + 1, math.MaxInt} {
		none = append(none, api.ID{Domain: 1, Seq: n})
	}
	for _, id := range append(none, api.ID{}) {
		lists = append(lists, []api.ID{id}, []api.ID{a, id}, []api.ID{id, c}, []api.ID{a, id, c})
	}
	return lists
}

// number is a field of a token that is a number, and its bounds.
type number struct {
	name        string
	least, most int
	of          func(t *api.Token) *int
}

// numbers are those fields.
func numbers() []number {
	return []number{
		{"Domain", 1, domains, func(t *api.Token) *int { return &t.Domain }},
		{"Epoch", 1, epochs, func(t *api.Token) *int { return &t.Epoch }},
		{"Number", 1, greatest, func(t *api.Token) *int { return &t.Number }},
		{"Until", 0, greatest, func(t *api.Token) *int { return &t.Until }},
	}
}

// valid are many valid tokens.
func valid() []api.Token {
	var list []api.Token
	good := bases()
	with := func(change func(t *api.Token)) {
		for _, t := range good {
			change(&t)
			list = append(list, t)
		}
	}
	with(func(*api.Token) {})
	for _, n := range numbers() {
		for _, x := range []int{n.least, n.least + 1, 2, 15, 16, n.most - 1, n.most} {
			with(func(t *api.Token) { *n.of(t) = x })
		}
	}
	for _, s := range someNames {
		with(func(t *api.Token) { t.Who = s })
	}
	for n := 1; n <= mostRole; n++ {
		with(func(t *api.Token) { t.Roles = manyRoles(n) })
		with(func(t *api.Token) { t.Roles = manyRoles(18)[18-n:] })
	}
	for _, n := range []int{0, 1, 2, 32, 63, 64} {
		with(func(t *api.Token) { t.Support = manyIDs(n) })
		with(func(t *api.Token) { t.Support = manyIDs(96)[96-n:] })
	}
	for _, c := range someCaveats() {
		with(func(t *api.Token) { t.Caveats = []api.Caveat{c} })
	}
	for n := range mostCut + 1 {
		with(func(t *api.Token) { t.Caveats = good[2].Caveats[:n] }) // the last base has all
		with(func(t *api.Token) { t.Caveats = slices.Repeat([]api.Caveat{cutFor("d2")}, n) })
	}
	for _, b := range [][]byte{make([]byte, tagSize), bytes.Repeat([]byte{255}, tagSize), []byte(strings.Repeat("tag!", 8))} {
		with(func(t *api.Token) { t.Tag = b })
	}
	return list
}

// wrong is a token that is not valid, and the part with the fault.
type wrong struct {
	part, name string
	token      api.Token
}

// wrongs are many tokens that are not valid, each with one fault.
func wrongs() []wrong {
	var list []wrong
	good, last := bases(), full().Caveats
	with := func(part, name string, change func(t *api.Token)) {
		for _, t := range good {
			t = deep(t)
			change(&t)
			list = append(list, wrong{part, name, t})
		}
	}
	for _, n := range numbers() {
		for _, x := range []int{math.MinInt, math.MinInt + 1, -n.most, -1 << 32, n.least - 2, n.least - 1, n.most + 1, n.most + 2, n.most + 1<<32, math.MaxInt - 1, math.MaxInt} {
			with("head", n.name+" "+strconv.Itoa(x), func(t *api.Token) { *n.of(t) = x })
		}
	}
	for _, s := range noNames {
		with("head", "Who "+strconv.Quote(s), func(t *api.Token) { t.Who = s })
	}
	for i, l := range append(noRoleLists(), nil, []api.Role{}) {
		with("head", "Roles "+strconv.Itoa(i), func(t *api.Token) { t.Roles = l })
	}
	for i, l := range noIDLists() {
		with("head", "Support "+strconv.Itoa(i), func(t *api.Token) { t.Support = l })
	}
	for i, c := range noCaveats() {
		with("caveats", "caveat "+strconv.Itoa(i), func(t *api.Token) { t.Caveats = []api.Caveat{c} })
		with("caveats", "last caveat "+strconv.Itoa(i), func(t *api.Token) { t.Caveats = append(slices.Clone(last[:5]), c) })
		with("caveats", "first caveat "+strconv.Itoa(i), func(t *api.Token) { t.Caveats = append([]api.Caveat{c}, last[1:]...) })
	}
	for _, n := range []int{7, 8, 100} {
		with("caveats", strconv.Itoa(n)+" caveats", func(t *api.Token) { t.Caveats = slices.Repeat([]api.Caveat{cutFor("d2")}, n) })
	}
	for _, n := range []int{0, 1, 31, 33, 64, 256 + 32} {
		with("tag", strconv.Itoa(n)+" bytes", func(t *api.Token) { t.Tag = make([]byte, n) })
	}
	with("tag", "nil", func(t *api.Token) { t.Tag = nil })
	return append(list, wrong{"head", "zero", api.Token{}}, wrong{"head", "a tag alone", api.Token{Tag: make([]byte, tagSize)}})
}

// P12.1: the chapter's examples: a token with the Epoch 1001, and one without Roles.
func TestMayExamples(t *testing.T) {
	late, bare := tagged(nil, example()), tagged(nil, example())
	late.Epoch, bare.Roles = 1001, nil
	if !token.May(tagged(nil, example())) || token.May(late) || token.May(bare) || token.May(example()) || token.May(api.Token{}) {
		t.Error("an example of the chapter")
	}
}

// P12.1: valid tokens, with each field at its bounds.
func TestMayValid(t *testing.T) {
	for i, x := range valid() {
		if !isToken(x) || !token.May(x) {
			t.Fatalf("token %d: May of %+v = %v", i, x, token.May(x))
		}
	}
}

// P12.1: each way in which a token is not valid.
func TestMayWrong(t *testing.T) {
	for _, w := range wrongs() {
		if isToken(w.token) || token.May(w.token) {
			t.Errorf("%s: it is valid", w.name)
		}
	}
}

// P12.1: roles in all orders, and with one of them twice.
func TestMayOrders(t *testing.T) {
	some := []api.Role{roleOf(1, "a"), roleOf(1, "b"), roleOf(16, "a"), roleOf(2, "a"), roleOf(9, "z")}
	ids := []api.ID{{Domain: 1, Seq: 1}, {Domain: 1, Seq: 2}, {Domain: 2, Seq: 1}, {Domain: 10, Seq: 9}, {Domain: 16, Seq: 1}}
	count := 0
	var grow func(l []int)
	grow = func(l []int) {
		x := tagged(nil, example())
		x.Roles = nil
		c := cutRoles()
		for _, n := range l {
			x.Roles, c.Roles, x.Support = append(x.Roles, some[n]), append(c.Roles, some[n]), append(x.Support, ids[n])
		}
		rising := slices.IsSorted(l) && len(slices.Compact(slices.Clone(l))) == len(l)
		y, z := tagged(nil, example()), tagged(nil, example())
		y.Caveats, z.Support = []api.Caveat{c}, x.Support
		x.Support = nil
		if token.May(x) != (rising && between(len(l), 1, 4)) || token.May(y) != (rising && len(l) <= 4) || token.May(z) != rising {
			t.Fatalf("May of roles, of a caveat's roles and of IDs, %v: %v, %v, %v", l, token.May(x), token.May(y), token.May(z))
		}
		count++
		for n := range some {
			if len(l) < 5 {
				grow(append(l[:len(l):len(l)], n))
			}
		}
	}
	grow(nil)
	if count != 1+5+25+125+625+3125 {
		t.Error(count)
	}
}

// mixer makes tokens by chance, always the same ones for the same seed.
type mixer struct {
	*rand.Rand
	bases              []api.Token
	caveats, noCaveats []api.Caveat
	noRoles            [][]api.Role
	noIDs              [][]api.ID
	ids                []api.ID
	few                []api.Role
	numbers            []number
}

// newMixer has all lists that it takes from.
func newMixer(seed int64) *mixer {
	return &mixer{rand.New(rand.NewSource(seed)), bases(), someCaveats(), noCaveats(), noRoleLists(), noIDLists(), manyIDs(96), manyRoles(6), numbers()}
}

// mixture is a token of which each part is not valid with so many chances in a thousand.
func (m *mixer) mixture(faults int) api.Token {
	bad := func() bool { return m.Intn(1000) < faults }
	x := pick(m, m.bases)
	for _, n := range m.numbers {
		*n.of(&x) = pick(m, []int{n.least, n.most, n.least + m.Intn(16)})
		if bad() {
			*n.of(&x) = pick(m, []int{n.least - 1, n.most + 1, math.MinInt, math.MaxInt})
		}
	}
	x.Who = pick(m, someNames)
	if bad() {
		x.Who = pick(m, noNames)
	}
	x.Roles = m.roles(1 + m.Intn(mostRole))
	if bad() {
		x.Roles = pick(m, m.noRoles)
	}
	start, size := m.Intn(32), m.Intn(6)
	if m.Intn(10) == 0 {
		size = m.Intn(mostID + 1)
	}
	x.Support = m.ids[start : start+size]
	if bad() {
		x.Support = pick(m, m.noIDs)
	}
	x.Caveats = nil
	for range m.Intn(mostCut + 1) {
		c := m.caveat()
		if bad() {
			c = pick(m, m.noCaveats)
		}
		x.Caveats = append(x.Caveats, c)
	}
	if bad() {
		x.Tag = x.Tag[:m.Intn(tagSize)]
	}
	return x
}

// caveat is a valid caveat, often one that leaves something.
func (m *mixer) caveat() api.Caveat {
	switch m.Intn(4) {
	case 0:
		return cutRoles(m.roles(m.Intn(mostRole + 1))...)
	case 1:
		return cutFor("d2")
	case 2:
		return cutUntil(28 + m.Intn(15))
	}
	return pick(m, m.caveats)
}

// roles are so many roles of a few, in ascending order.
func (m *mixer) roles(n int) []api.Role {
	var l []api.Role
	for i, r := range m.few { // each one with the chance that so many are taken of those that are left
		if m.Intn(len(m.few)-i) < n-len(l) {
			l = append(l, r)
		}
	}
	return l
}

// pick is one of a list.
func pick[T any](m *mixer, l []T) T {
	return l[m.Intn(len(l))]
}

// P12.1: tokens of which each part may be valid or not.
func TestMayMixtures(t *testing.T) {
	m := newMixer(1)
	count := [2]int{}
	for range 20000 {
		x := m.mixture(50)
		want := isToken(x)
		if token.May(x) != want {
			t.Fatalf("May of %+v = %v", x, !want)
		}
		if want {
			count[1]++
		} else {
			count[0]++
		}
	}
	if min(count[0], count[1]) < 2000 {
		t.Error(count)
	}
}

// keys are keys of every length about those that matter, with other bytes each.
func keys() [][]byte {
	list := [][]byte{nil, {}}
	for n := 1; n <= 140; n++ {
		b := make([]byte, n)
		for i := range b {
			b[i] = byte(n + 7*i)
		}
		list = append(list, b)
	}
	return append(list, bytes.Repeat([]byte("key"), 1000))
}

// P12.1: the chapter's examples of what can't be minted.
func TestMintExamples(t *testing.T) {
	late, bare := example(), example()
	late.Epoch, bare.Roles = 1001, nil
	for _, x := range []api.Token{late, bare, {}} {
		if got, e := token.Mint([]byte("k"), x); !zero(got) || e != api.ErrToken {
			t.Errorf("Mint of %+v = %+v, %v", x, got, e)
		}
	}
	got, e := token.Mint([]byte("k"), example())
	head := []byte{1, 1, 1, 1, 1, 1, 1, 3, 'a', 'n', 'n', 1, 2, 1, 1, 1, 1, 'a', 1, 1, 1, 1, 'b', 1, 40, 0}
	want := example()
	want.Tag = hmacOf([]byte("k"), head)
	if !same(got, want) || e != api.OK {
		t.Errorf("Mint = %+v, %v, want %+v", got, e, want)
	}
}

// minted tells if Mint doesn't return what the chapter says of a token that is valid but for its Caveats and its Tag.
func minted(t *testing.T, key []byte, x api.Token) {
	t.Helper()
	want := x
	want.Caveats = nil
	want = tagged(key, want)
	if got, e := token.Mint(key, x); !same(got, want) || e != api.OK || !token.May(got) {
		t.Fatalf("Mint of %+v = %+v, %v, want %+v", x, got, e, want)
	}
}

// P12.1: Mint of all sorts of tokens. Whatever they have as Caveats and Tag, valid or not, doesn't count.
func TestMint(t *testing.T) {
	for i, x := range valid() {
		minted(t, keys()[i%len(keys())], x)
		x.Caveats, x.Tag = nil, nil
		minted(t, []byte("key"), x)
	}
	for _, w := range wrongs() {
		if w.part != "head" {
			minted(t, []byte("key"), w.token)
			continue
		}
		for _, tag := range [][]byte{w.token.Tag, nil, make([]byte, tagSize)} {
			w.token.Tag = tag
			if got, e := token.Mint([]byte("key"), w.token); !zero(got) || e != api.ErrToken {
				t.Fatalf("%s: Mint = %+v, %v", w.name, got, e)
			}
		}
	}
}

// P12.1: Mint with keys of every length about 64 bytes, nil and empty.
func TestMintKeys(t *testing.T) {
	for _, key := range keys() {
		for _, x := range bases() {
			minted(t, key, x)
		}
	}
}

// P12.1: the chapter's example of a caveat that is not valid, and two of the chapter's tokens.
func TestNarrowExamples(t *testing.T) {
	x, _ := token.Mint([]byte("k"), example())
	if got, e := token.Narrow(x, cutUntil(-1)); !zero(got) || e != api.ErrArg {
		t.Errorf("Narrow = %+v, %v", got, e)
	}
	for _, y := range []struct {
		c    api.Caveat
		data []byte
	}{
		{cutUntil(30), []byte{1, 2, 1, 30}},
		{cutRoles(roleOf(1, "b")), []byte{1, 1, 1, 1, 1, 1, 1, 1, 'b'}},
		{cutRoles(), []byte{1, 1, 0}},
		{cutFor("d2"), []byte{1, 3, 1, 2, 'd', '2'}},
	} {
		want := x
		want.Caveats, want.Tag = []api.Caveat{y.c}, hmacOf(x.Tag, y.data)
		if got, e := token.Narrow(x, y.c); !same(got, want) || e != api.OK {
			t.Errorf("Narrow by %+v = %+v, %v, want %+v", y.c, got, e, want)
		}
	}
}

// P12.1: Narrow of all sorts of tokens, whether their tags are right or not, by all sorts of caveats.
func TestNarrow(t *testing.T) {
	full := 0
	for _, x := range valid() {
		for _, c := range someCaveats() {
			got, e := token.Narrow(x, c)
			if len(x.Caveats) == mostCut {
				full++
				if !zero(got) || e != api.ErrFull {
					t.Fatalf("Narrow of %+v = %+v, %v", x, got, e)
				}
				continue
			}
			want := x
			want.Caveats, want.Tag = slices.Concat(x.Caveats, []api.Caveat{c}), hmacOf(x.Tag, caveatOf(c))
			if !same(got, want) || e != api.OK || !token.May(got) {
				t.Fatalf("Narrow of %+v by %+v = %+v, %v", x, c, got, e)
			}
		}
	}
	if full == 0 {
		t.Error("none was full")
	}
}

// P12.1: the errors of Narrow, in their order.
func TestNarrowErrors(t *testing.T) {
	good := bases()[0]
	fullUp := full()
	fails := func(x api.Token, c api.Caveat, want api.Errno) {
		t.Helper()
		if got, e := token.Narrow(x, c); !zero(got) || e != want {
			t.Fatalf("Narrow of %+v by %+v = %+v, %v, want %v", x, c, got, e, want)
		}
	}
	for _, c := range noCaveats() {
		fails(good, c, api.ErrArg)
		fails(bases()[1], c, api.ErrArg)
		fails(fullUp, c, api.ErrFull)
		fails(api.Token{}, c, api.ErrToken)
	}
	for _, w := range wrongs() {
		fails(w.token, cutFor("a"), api.ErrToken)
		fails(w.token, api.Caveat{}, api.ErrToken)
		if w.part == "head" { // neither valid, nor with room for one more
			w.token.Caveats = fullUp.Caveats
			fails(w.token, cutFor("a"), api.ErrToken)
			fails(w.token, api.Caveat{Kind: 4}, api.ErrToken)
		}
	}
}

// P12.1: Verify of tokens with their last tag, and with each other of the sequence.
func TestVerify(t *testing.T) {
	for i, x := range valid() {
		key := keys()[(3*i)%len(keys())]
		tags := tagsOf(key, x)
		for k, tag := range tags {
			x.Tag = tag
			want := api.ErrTag
			if k == len(tags)-1 {
				want = api.OK
			}
			if got := token.Verify(key, x); got != want {
				t.Fatalf("Verify of %+v with the tag %d = %v", x, k, got)
			}
		}
	}
}

// P12.1: Verify with another key.
func TestVerifyOtherKey(t *testing.T) {
	all := keys()
	for _, x := range bases() {
		for i, key := range all {
			y := tagged(key, x)
			for k, other := range all {
				want := api.ErrTag
				if i == k || i < 2 && k < 2 {
					want = api.OK
				}
				if got := token.Verify(other, y); got != want {
					t.Fatalf("Verify with the key %d, and not %d = %v", k, i, got)
				}
			}
		}
	}
}

// P12.1: what is not valid is ErrToken, whether its tag is right or not.
func TestVerifyWrong(t *testing.T) {
	key := []byte("key")
	for _, w := range wrongs() {
		if got := token.Verify(key, w.token); got != api.ErrToken {
			t.Errorf("%s: Verify = %v", w.name, got)
		}
		if w.part != "tag" {
			if got := token.Verify(key, tagged(key, w.token)); got != api.ErrToken {
				t.Errorf("%s, with its tag: Verify = %v", w.name, got)
			}
		}
	}
}

// unverified tells if a token that isn't as it was when it was given its tag is verified.
func unverified(t *testing.T, key []byte, what string, x api.Token) {
	t.Helper()
	if got := token.Verify(key, x); got != api.ErrTag || !isToken(x) {
		t.Fatalf("%s: Verify of %+v = %v", what, x, got)
	}
}

// headsLike are tokens that differ from x in one part of the head.
func headsLike(x api.Token) map[string]api.Token {
	all := map[string]api.Token{}
	with := func(what string, change func(t *api.Token)) {
		y := deep(x)
		change(&y)
		if isToken(y) && !bytes.Equal(headOf(x), headOf(y)) {
			all[what] = y
		}
	}
	for _, n := range numbers() {
		for by := range 40 {
			with(n.name+" less "+strconv.Itoa(1<<by), func(t *api.Token) { *n.of(t) -= 1 << by })
			with(n.name+" more "+strconv.Itoa(1<<by), func(t *api.Token) { *n.of(t) += 1 << by })
		}
	}
	for _, s := range append(someNames, x.Who+"a", x.Who[:len(x.Who)-1]) {
		with("Who "+s, func(t *api.Token) { t.Who = s })
	}
	for i := range x.Roles {
		is := "Role " + strconv.Itoa(i)
		with(is+" left out", func(t *api.Token) { t.Roles = slices.Delete(t.Roles, i, i+1) })
		with(is+" longer", func(t *api.Token) { t.Roles[i].Name += "a" })
		for owner := 1; owner <= domains; owner++ {
			with(is+" of "+strconv.Itoa(owner), func(t *api.Token) { t.Roles[i].Owner = "d" + strconv.Itoa(owner) })
		}
	}
	with("another role", func(t *api.Token) { t.Roles = append(t.Roles, roleOf(9, "zz")) })
	for i := range x.Support {
		is := "ID " + strconv.Itoa(i)
		with(is+" left out", func(t *api.Token) { t.Support = slices.Delete(t.Support, i, i+1) })
		with(is+" more", func(t *api.Token) { t.Support[i].Seq++ })
		with(is+" less", func(t *api.Token) { t.Support[i].Seq-- })
		with(is+" of the next", func(t *api.Token) { t.Support[i].Domain++ })
	}
	with("another ID", func(t *api.Token) { t.Support = append(t.Support, api.ID{Domain: 16, Seq: 4000}) })
	return all
}

// P12.1: Verify of tokens of which one part of the head was changed.
func TestVerifyHeadChanged(t *testing.T) {
	key := []byte("key")
	for _, x := range bases() {
		x = tagged(key, x)
		changed := headsLike(x)
		if len(changed) < 60 {
			t.Errorf("only %d changes of %+v", len(changed), x)
		}
		for what, y := range changed {
			unverified(t, key, what, y)
		}
	}
}

// P12.1: Verify of tokens of which one bit of the tag was changed, or all of it.
func TestVerifyTagChanged(t *testing.T) {
	key := []byte("key")
	for _, x := range bases() {
		x = tagged(key, x)
		for i := range 8 * tagSize {
			y := deep(x)
			y.Tag[i/8] ^= 1 << (i % 8)
			unverified(t, key, "bit "+strconv.Itoa(i), y)
		}
		for _, tag := range [][]byte{make([]byte, tagSize), bytes.Repeat([]byte{255}, tagSize), hmacOf(x.Tag, nil), hmacOf(nil, headOf(x))} {
			y := x
			y.Tag = tag
			unverified(t, key, "another tag", y)
		}
	}
}

// P12.1: Verify of tokens of which a caveat was removed, added, changed, or put in another place. The chapter's example is the last one removed.
func TestVerifyCaveatsChanged(t *testing.T) {
	key := []byte("key")
	lists := [][]api.Caveat{{cutUntil(30)}, {cutRoles(roleOf(1, "a")), cutUntil(30), cutFor("d2")}, {cutFor("a"), cutFor("b"), cutFor("c"), cutUntil(1), cutUntil(2), cutRoles(roleOf(1, "b"))}}
	for _, l := range lists {
		x := example()
		x.Caveats = l
		x = tagged(key, x)
		if e := token.Verify(key, x); e != api.OK {
			t.Fatal(e)
		}
		with := func(what string, l []api.Caveat) {
			y := x
			y.Caveats = l
			unverified(t, key, what, y)
		}
		for i := range l {
			with("removed "+strconv.Itoa(i), slices.Delete(slices.Clone(l), i, i+1))
			with("cut off at "+strconv.Itoa(i), l[:i])
			for k := range i {
				swapped := slices.Clone(l)
				swapped[i], swapped[k] = swapped[k], swapped[i]
				with("put in another place", swapped)
			}
			for _, c := range someCaveats() {
				if !sameCaveat(c, l[i]) {
					with("changed", slices.Replace(slices.Clone(l), i, i+1, c))
				}
			}
		}
		for i := range len(l) + 1 {
			for _, c := range someCaveats() {
				if len(l) < mostCut {
					with("added", slices.Insert(slices.Clone(l), i, c))
				}
			}
		}
	}
}

// P12.4: what was minted with a key, and narrowed as often as possible, is verified with this key, and with no other one.
func TestMintedAndNarrowed(t *testing.T) {
	m := newMixer(4)
	all := keys()
	for i := range 1500 {
		key, other := all[i%len(all)], append([]byte("other"), all[i%len(all)]...)
		x, e := token.Mint(key, m.mixture(0))
		for n := range mostCut + 1 {
			if e != api.OK || token.Verify(key, x) != api.OK || token.Verify(other, x) != api.ErrTag || len(x.Caveats) != n || !token.May(x) {
				t.Fatalf("narrowed %d times: %+v, %v", n, x, e)
			}
			if n < mostCut {
				x, e = token.Narrow(x, m.caveat())
			}
		}
		if y, e := token.Narrow(x, cutUntil(0)); !zero(y) || e != api.ErrFull {
			t.Fatalf("narrowed once more: %+v, %v", y, e)
		}
		again, e := token.Mint(key, x) // and what was narrowed is minted anew
		if e != api.OK || token.Verify(key, again) != api.OK || len(again.Caveats) != 0 {
			t.Fatalf("minted anew: %+v, %v", again, e)
		}
	}
}

// P12.1: a token is narrowed in two ways; both are verified, and none knows of the other one.
func TestNarrowTwoWays(t *testing.T) {
	key := []byte("key")
	x, _ := token.Mint(key, example())
	for n := range mostCut {
		a, _ := token.Narrow(x, cutFor("a"))
		b, _ := token.Narrow(x, cutFor("b"))
		for _, y := range []api.Token{x, a, b} {
			if token.Verify(key, y) != api.OK {
				t.Errorf("behind %d caveats: %+v", n, y)
			}
		}
		if a.Caveats[n].Aud != "a" || b.Caveats[n].Aud != "b" || len(x.Caveats) != n || bytes.Equal(a.Tag, b.Tag) {
			t.Errorf("behind %d caveats: %+v and %+v", n, a, b)
		}
		x, _ = token.Narrow(x, cutUntil(30+n))
	}
}
