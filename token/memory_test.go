package token_test

import (
	"bytes"
	"reflect"
	"slices"
	"strconv"
	"strings"
	"sync"
	"testing"

	"livery/api"
	"livery/token"
	"livery/wire"
)

// room are the arrays in which the lists of a token lie, with others ahead of them and behind them.
type room struct {
	roles   [][]api.Role // the token's own, and those of its caveats
	ids     []api.ID
	caveats []api.Caveat
	tag     []byte
}

// spare is how much room there is behind a list; more than any call could add.
const spare = 70

// within is a part of an array behind two others, with spare room of which no byte is zero.
func within[T any](l []T, other T) (whole, part []T) {
	whole = slices.Concat([]T{other, other}, l, slices.Repeat([]T{other}, spare))
	return whole, whole[2 : 2+len(l)]
}

// roomy is an equal token, with the arrays in which its lists lie.
func roomy(x api.Token) (api.Token, *room) {
	m := &room{}
	roles := func(l []api.Role) []api.Role {
		whole, part := within(l, roleOf(3, "other"))
		m.roles = append(m.roles, whole)
		return part
	}
	x.Roles = roles(x.Roles)
	m.ids, x.Support = within(x.Support, api.ID{Domain: 3, Seq: 33})
	m.caveats, x.Caveats = within(x.Caveats, cutFor("other"))
	for i, c := range x.Caveats {
		x.Caveats[i].Roles = roles(c.Roles)
	}
	m.tag, x.Tag = within(x.Tag, 170)
	return x, m
}

// copied are the same contents in other arrays.
func (m *room) copied() *room {
	c := &room{nil, slices.Clone(m.ids), slices.Clone(m.caveats), slices.Clone(m.tag)}
	for _, l := range m.roles {
		c.roles = append(c.roles, slices.Clone(l))
	}
	for i, x := range c.caveats {
		c.caveats[i].Roles = slices.Clone(x.Roles)
	}
	return c
}

// overwrite writes to all of the arrays.
func (m *room) overwrite() {
	for _, l := range m.roles {
		clear(l)
	}
	clear(m.ids)
	clear(m.caveats)
	for i := range m.tag {
		m.tag[i] ^= 255
	}
}

// overwrite writes to all that a token's lists have, at every depth, their spare room included.
func overwrite(x api.Token) {
	clear(x.Roles[:cap(x.Roles)])
	clear(x.Support[:cap(x.Support)])
	for _, c := range x.Caveats[:cap(x.Caveats)] {
		clear(c.Roles[:cap(c.Roles)])
	}
	clear(x.Caveats[:cap(x.Caveats)])
	x.Tag = x.Tag[:cap(x.Tag)]
	for i := range x.Tag {
		x.Tag[i] ^= 255
	}
}

// calls are the calls that return a token, of a token, a caveat and bytes that are a key or an encoding.
func calls() []func(x api.Token, c api.Caveat, b []byte) api.Token {
	return []func(x api.Token, c api.Caveat, b []byte) api.Token{
		func(x api.Token, _ api.Caveat, b []byte) api.Token { y, _ := token.Mint(b, x); return y },
		func(x api.Token, c api.Caveat, _ []byte) api.Token { y, _ := token.Narrow(x, c); return y },
		func(x api.Token, _ api.Caveat, _ []byte) api.Token { return api.Token{Roles: token.Roles(x)} },
		func(x api.Token, _ api.Caveat, b []byte) api.Token { y, _ := token.Put(b, x); return api.Token{Tag: y} },
		func(x api.Token, _ api.Caveat, _ []byte) api.Token { return token.Read(wire.New(encodingOf(x))) },
	}
}

// some are tokens, most of them valid, with fewer caveats than there may be, and each with a caveat.
func some(each func(x api.Token, c api.Caveat)) {
	caveats := someCaveats()
	for i, x := range valid() {
		x.Caveats = x.Caveats[:min(len(x.Caveats), mostCut-1)]
		each(x, caveats[i%len(caveats)])
	}
	m := newMixer(8)
	for range 400 {
		each(m.mixture(40), m.caveat())
	}
}

// R4: what is handed in is not changed, not even ahead of it or in its spare room.
func TestArgumentsStay(t *testing.T) {
	some(func(x api.Token, c api.Caveat) {
		y, arrays := roomy(x)
		d, others := roomy(api.Token{Roles: c.Roles})
		key, b := within([]byte("a key, or bytes ahead"), 99)
		c.Roles = d.Roles
		before, before2, before3 := arrays.copied(), others.copied(), bytes.Clone(key)
		for _, call := range calls() {
			call(y, c, b)
		}
		token.May(y)
		token.Verify(b, y)
		token.Until(y)
		token.Allows(y, roleOf(1, "a"), "d2", 3)
		if !reflect.DeepEqual(arrays.copied(), before) || !reflect.DeepEqual(others.copied(), before2) || !bytes.Equal(key, before3) {
			t.Fatalf("%+v, %+v or the bytes were changed", x, c)
		}
	})
}

// R4: what is returned shares no memory, spare room included, with what was handed in or with what was returned before.
func TestResultsAreNew(t *testing.T) {
	some(func(x api.Token, c api.Caveat) {
		for i, call := range calls() {
			y, arrays := roomy(x)
			d, others := roomy(api.Token{Roles: c.Roles})
			whole, b := within([]byte("a key, or bytes ahead"), 99)
			c := c
			c.Roles = d.Roles
			first, second := call(y, c, b), call(y, c, b)
			want := deep(second)
			if !same(first, want) {
				t.Fatalf("call %d of %+v: %+v, and then %+v", i, x, first, second)
			}
			arrays.overwrite()
			others.overwrite()
			clear(whole)
			if !same(first, want) || !same(second, want) {
				t.Fatalf("call %d of %+v shares memory with what was handed in", i, x)
			}
			overwrite(first)
			if !same(second, want) {
				t.Fatalf("call %d of %+v shares memory with what it returned before", i, x)
			}
		}
	})
}

// R4: what is returned can be written to without any change to what was handed in.
func TestResultsDoNotReachArguments(t *testing.T) {
	some(func(x api.Token, c api.Caveat) {
		y, arrays := roomy(x)
		d, others := roomy(api.Token{Roles: c.Roles})
		c.Roles = d.Roles
		whole, b := within([]byte("a key, or bytes ahead"), 99)
		before, before2, before3 := arrays.copied(), others.copied(), bytes.Clone(whole)
		for i, call := range calls() {
			overwrite(call(y, c, b))
			if !reflect.DeepEqual(arrays.copied(), before) || !reflect.DeepEqual(others.copied(), before2) || !bytes.Equal(whole, before3) {
				t.Fatalf("call %d of %+v returns memory that was handed in", i, x)
			}
		}
	})
}

// R4: no two lists of one result share memory, also where those that were handed in do.
func TestListsOfOneResult(t *testing.T) {
	shared := manyRoles(3)
	x := cut(cutRoles(shared...), cutRoles(shared...), cutRoles(shared[:2]...))
	x.Roles = shared
	for i := range x.Caveats {
		x.Caveats[i].Roles = shared[:3-i/2]
	}
	y, e := token.Narrow(x, cutRoles(shared...))
	if e != api.OK {
		t.Fatal(e)
	}
	lists := [][]api.Role{y.Roles}
	for _, c := range y.Caveats {
		lists = append(lists, c.Roles)
	}
	for i, l := range lists {
		before := slices.Concat(lists[i+1:]...)
		clear(l[:cap(l)])
		if !slices.Equal(slices.Concat(lists[i+1:]...), before) || shared[0] != roleOf(1, "a") {
			t.Errorf("list %d shares memory", i)
		}
	}
	c := wire.New(slices.Repeat(encodingOf(x), 2))
	first := token.Read(c)
	overwrite(first)
	if second := token.Read(c); !same(second, x) || c.End() != api.OK {
		t.Errorf("%+v, %v", second, c.End())
	}
}

// emptied is an equal token, of which each list that has nothing is not nil; bare is one of which it is.
func emptied(x api.Token) (empty, bare api.Token) {
	empty, bare = deep(x), deep(x)
	if len(x.Support) == 0 {
		empty.Support, bare.Support = []api.ID{}, nil
	}
	if len(x.Roles) == 0 {
		empty.Roles, bare.Roles = []api.Role{}, nil
	}
	if len(x.Caveats) == 0 {
		empty.Caveats, bare.Caveats = []api.Caveat{}, nil
	}
	if len(x.Tag) == 0 {
		empty.Tag, bare.Tag = []byte{}, nil
	}
	for i, c := range x.Caveats {
		if len(c.Roles) == 0 {
			empty.Caveats[i].Roles, bare.Caveats[i].Roles = []api.Role{}, nil
		}
	}
	return empty, bare
}

// R4: nil and empty lists, keys and bytes are equivalent.
func TestNilAndEmpty(t *testing.T) {
	var list []api.Token
	some(func(x api.Token, _ api.Caveat) { list = append(list, x) })
	for _, w := range wrongs() {
		list = append(list, w.token)
	}
	for _, x := range list {
		empty, bare := emptied(x)
		tag := tagged(nil, x).Tag
		for _, c := range []api.Caveat{cutUntil(9), cutRoles(), {Kind: 1, Roles: []api.Role{}}, {Kind: 3, Aud: "a", Roles: []api.Role{}}} {
			for i, call := range calls() {
				if !same(call(empty, c, []byte{}), call(bare, c, nil)) {
					t.Fatalf("call %d of %+v", i, x)
				}
			}
		}
		if token.May(empty) != token.May(bare) || token.Until(empty) != token.Until(bare) || token.Allows(empty, roleOf(1, "a"), "d2", 3) != token.Allows(bare, roleOf(1, "a"), "d2", 3) {
			t.Fatalf("%+v", x)
		}
		empty.Tag, bare.Tag = tag, tag
		if token.Verify([]byte{}, empty) != token.Verify(nil, bare) {
			t.Fatalf("Verify of %+v", x)
		}
	}
}

// R5: equal tokens count alike, whatever their capacity, and whichever memory they are in.
func TestCapacityDoesNotCount(t *testing.T) {
	some(func(x api.Token, c api.Caveat) {
		y, _ := roomy(x)
		d, _ := roomy(api.Token{Roles: c.Roles})
		wide, tight := c, c
		wide.Roles, tight.Roles = d.Roles, slices.Clip(slices.Clone(c.Roles))
		key := []byte("a key, or bytes ahead")
		_, b := within(key, 99)
		for i, call := range calls() {
			if got, want := call(y, wide, b), call(deep(x), tight, key); !same(got, want) {
				t.Fatalf("call %d of %+v: %+v, %+v", i, x, got, want)
			}
		}
		if token.May(y) != token.May(x) || token.Verify(b, y) != token.Verify(key, x) || token.Until(y) != token.Until(x) || token.Allows(y, roleOf(1, "a"), "d2", 3) != token.Allows(x, roleOf(1, "a"), "d2", 3) {
			t.Fatalf("%+v", x)
		}
	})
}

// R2 and R3: beside an error, every other result is its zero value, with lists that are nil or empty.
func TestZeroBesideErrors(t *testing.T) {
	for _, w := range wrongs() {
		if x, e := token.Narrow(w.token, cutFor("a")); e == api.OK || !reflect.DeepEqual(x, api.Token{}) {
			t.Fatalf("%s: Narrow = %+v, %v", w.name, x, e)
		}
		if x, e := token.Mint(nil, w.token); e != api.OK && !reflect.DeepEqual(x, api.Token{}) {
			t.Fatalf("%s: Mint = %+v, %v", w.name, x, e)
		}
		if b, e := token.Put([]byte("ahead"), w.token); e == api.OK || b != nil {
			t.Fatalf("%s: Put = %d, %v", w.name, b, e)
		}
		c := wire.New(encodingOf(w.token))
		if x := token.Read(c); c.Err() != api.OK && !reflect.DeepEqual(x, api.Token{}) {
			t.Fatalf("%s: Read = %+v, %v", w.name, x, c.Err())
		}
	}
}

// R1: no call panics or fails to end with very long lists, strings and keys.
func TestLong(t *testing.T) {
	a := roleOf(1, "a")
	word := strings.Repeat("a", 1<<20)
	var different []api.Role
	for i := range 1 << 17 {
		different = append(different, roleOf(1, "a"+strconv.Itoa(i)))
	}
	good := bases()[0]
	with := func(change func(x *api.Token)) api.Token {
		x := deep(good)
		change(&x)
		return x
	}
	for i, x := range []api.Token{
		with(func(x *api.Token) { x.Who = word }),
		with(func(x *api.Token) { x.Roles = slices.Repeat([]api.Role{a}, 1<<18) }),
		with(func(x *api.Token) { x.Roles = different }),
		with(func(x *api.Token) { x.Roles = []api.Role{{Owner: word, Name: word}} }),
		with(func(x *api.Token) { x.Support = slices.Repeat([]api.ID{{Domain: 1, Seq: 1}}, 1<<18) }),
		with(func(x *api.Token) { x.Caveats = slices.Repeat([]api.Caveat{cutRoles(a)}, 1<<18) }),
		with(func(x *api.Token) { x.Caveats = []api.Caveat{cutRoles(different...)} }),
		with(func(x *api.Token) { x.Roles, x.Caveats = different, []api.Caveat{cutRoles(a)} }),
		with(func(x *api.Token) { x.Caveats = []api.Caveat{cutFor(word)} }),
		with(func(x *api.Token) { x.Tag = []byte(word) }),
	} {
		_, narrow := token.Narrow(x, cutUntil(3))
		_, put := token.Put(nil, x)
		if token.May(x) || token.Verify(nil, x) != api.ErrToken || narrow != api.ErrToken || put != api.ErrToken {
			t.Errorf("%d: %v, %v, %v, %v", i, token.May(x), token.Verify(nil, x), narrow, put)
		}
		if _, e := token.Mint(nil, x); e != api.OK && e != api.ErrToken {
			t.Errorf("%d: %v", i, e)
		}
		if got := token.Roles(x); !slices.Equal(got, rolesOf(x)) {
			t.Errorf("%d: %d roles", i, len(got))
		}
		if got := token.Allows(x, a, word, 3); token.Until(x) != 40 || got != allowsOf(x, a, word, 3) {
			t.Errorf("%d: %d, %v", i, token.Until(x), got)
		}
	}
	if x, e := token.Mint([]byte(word), good); e != api.OK || token.Verify([]byte(word), x) != api.OK || token.Verify([]byte(word[1:]), x) != api.ErrTag {
		t.Error(e)
	}
	if _, e := token.Narrow(good, cutRoles(different...)); e != api.ErrArg {
		t.Error(e)
	}
}

// answers are those of many calls.
func answers() []int {
	var all []int
	m := newMixer(9)
	for range 150 {
		x, c := m.mixture(60), m.caveat()
		for _, call := range calls() {
			y := call(x, c, []byte("key"))
			b, e := token.Put(nil, y)
			all = append(all, len(b), int(e), len(y.Roles), len(y.Caveats))
			for _, n := range y.Tag {
				all = append(all, int(n))
			}
		}
		_, e := token.Mint(nil, x)
		_, f := token.Narrow(x, c)
		all = append(all, int(e), int(f), token.Until(x), int(token.Verify(nil, x)), int(token.Allows(x, roleOf(1, "a"), "d2", 3)))
	}
	return all
}

// R5: the same calls answer the same each time, from whichever goroutine.
func TestAgain(t *testing.T) {
	want := answers()
	var group sync.WaitGroup
	for range 8 {
		group.Go(func() {
			for range 3 {
				if !slices.Equal(answers(), want) {
					t.Error("other answers")
				}
			}
		})
	}
	group.Wait()
}
