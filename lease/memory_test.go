package lease_test

import (
	"fmt"
	"math"
	"math/rand"
	"slices"
	"strconv"
	"sync"
	"testing"

	"livery/api"
	"livery/lease"
)

// spare is how much room there is behind a list; more than any call could add.
const spare = 60

// within is a part of an array behind two others, with spare room of which nothing is zero.
func within[T any](l []T, other T) (whole, part []T) {
	whole = slices.Concat([]T{other, other}, l, slices.Repeat([]T{other}, spare))
	return whole, whole[2 : 2+len(l)]
}

// overwrite writes to all that a list has, its spare room included.
func overwrite[T any](l []T, other T) {
	l = l[:cap(l)]
	for i := range l {
		l[i] = other
	}
}

// R4: what is handed in is not changed, not even ahead of it or in its spare room, and not retained.
func TestArgumentsStay(t *testing.T) {
	for name, l := range lists(4) {
		b, m := made(t, 1, learn(3, members(3, 9), 5))
		whole, part := within(l, member(4, 3000, 9))
		before := slices.Clone(whole)
		m = try(t, b, m, learn(4, part, 10))
		m = try(t, b, m, learn(4, part, 10))
		if !slices.Equal(whole, before) {
			t.Fatalf("%s: Learn has changed it", name)
		}
		held := b.Held(20)
		clear(whole)
		if got := b.Held(20); !slices.Equal(got, held) || !slices.Equal(got, m.held(20)) {
			t.Fatalf("%s: Held = %v behind a change of what was handed in", name, got)
		}
		all, ids := within(slices.Concat(idsOf(held), []api.ID{id(1, 1)}), id(3, 8))
		kept := slices.Clone(all)
		for range 2 {
			b.Until(ids, 20)
			b.Stale(ids, 20)
			b.Held(20)
		}
		if !slices.Equal(all, kept) {
			t.Fatalf("%s: Until or Stale has changed the IDs", name)
		}
		n, e := b.Until(ids, 20)
		stale := b.Stale(ids, 20)
		clear(all)
		if k, again := b.Until(kept[2:2+len(ids)], 20); k != n || again != e || b.Stale(kept[2:2+len(ids)], 20) != stale {
			t.Fatalf("%s: Until = %d, %v and then %d, %v", name, n, e, k, again)
		}
		checkAt(t, name, b, m, 20)
	}
}

// R4: what is returned shares no memory, spare room included, with the book or with what was returned before.
func TestResultsAreNew(t *testing.T) {
	other := api.Held{Cred: member(9, 99, 99), Until: 99}
	for name, l := range lists(4) {
		b, m := made(t, 1, learn(3, members(3, 9, 8, 7), 5))
		m = try(t, b, m, learn(4, l, 10))
		for _, now := range []int{0, 61, 66} {
			first, second := b.Held(now), b.Held(now)
			overwrite(first, other)
			if want := m.held(now); !slices.Equal(second, want) || !slices.Equal(b.Held(now), want) {
				t.Fatalf("%s: Held(%d) = %v, and then %v, want %v", name, now, second, b.Held(now), want)
			}
		}
		check(t, name, b, m)
	}
}

// R4: what was returned stays as it is while the book goes on.
func TestResultsStay(t *testing.T) {
	b, m := made(t, 1, learn(2, members(2, rising(1, most)...), 5), learn(3, members(3, 4, 5), 6))
	held := b.Held(20)
	roomy := held[:cap(held)]
	before := slices.Clone(roomy)
	m = try(t, b, m, learn(2, members(2, rising(70, most)...), 10))
	m = try(t, b, m, learn(3, nil, 10))
	m = try(t, b, m, hear(3, 10))
	b.Held(20)
	if !slices.Equal(roomy, before) {
		t.Errorf("%v has changed", roomy)
	}
	check(t, "behind new answers", b, m)
}

// R4: two books share nothing, also where they were handed the same list.
func TestTwoBooks(t *testing.T) {
	l := members(3, 2, 1, 8)
	a, m := made(t, 1, learn(3, l, 10))
	b, n := made(t, 1, learn(3, l, 10))
	c, o := made(t, 2, hear(3, 4))
	m = try(t, a, m, learn(3, l[:1], 20))
	check(t, "the first", a, m)
	check(t, "the second", b, n)
	check(t, "the third", c, o)
	n = try(t, b, n, learn(4, members(4, 1), 11))
	n = try(t, b, n, hear(3, 40))
	o = try(t, c, o, learn(3, l[1:], 15))
	overwrite(a.Held(20), api.Held{})
	overwrite(b.Held(20), api.Held{})
	check(t, "the first", a, m)
	check(t, "the second", b, n)
	check(t, "the third", c, o)
	check(t, "a new one", lease.New(1), model{own: 1})
}

// R2, R5: a call that only asks changes nothing, whatever it is asked: neither at a later tick, nor behind an error.
func TestAskingChangesNothing(t *testing.T) {
	b, m := made(t, 1, learn(2, members(2, 1, 2), 10), hear(3, 10), learn(4, members(4, 4), 30))
	for _, now := range append(numbers(), 65, 66, 85, 86) {
		for _, d := range places() {
			b.Held(now)
			b.Fresh(d, now)
			b.Until([]api.ID{id(2, 1), id(d, 1)}, now)
			b.Stale([]api.ID{id(d, 1)}, now)
		}
		checkAt(t, "behind "+strconv.Itoa(now), b, m, 40)
	}
	check(t, "behind all", b, m)
}

// R4: nil and empty lists are equivalent.
func TestNilAndEmpty(t *testing.T) {
	for _, l := range [][]api.Cred{nil, {}, make([]api.Cred, 0, 9)} {
		b, m := made(t, 1, learn(2, members(2, 1), 10))
		m = try(t, b, m, learn(2, l, 10))
		if got := b.Held(10); len(got) != 0 || !b.Fresh(2, 57) {
			t.Errorf("Held = %v", got)
		}
		check(t, "behind none", b, m)
	}
	b, _ := made(t, 1, learn(2, members(2, 1), 10))
	for _, ids := range [][]api.ID{nil, {}, make([]api.ID, 0, 9)} {
		for _, now := range numbers() {
			if n, e := b.Until(ids, now); n != end || e != api.OK || b.Stale(ids, now) {
				t.Errorf("Until and Stale of none at %d: %d, %v", now, n, e)
			}
		}
	}
}

// R1: no call panics or fails to end with very long lists, or with the ends of int.
func TestLongLists(t *testing.T) {
	b, m := made(t, 1, learn(2, members(2, 1), 10))
	l := slices.Concat(slices.Repeat(members(2, 7), 1<<17), slices.Repeat(members(3, 7), 1<<17), make([]api.Cred, 1<<17), members(2, 5))
	m = try(t, b, m, learn(2, l, 20))
	if got := idsOf(b.Held(20)); !slices.Equal(got, []api.ID{id(2, 5), id(2, 7)}) {
		t.Errorf("Held = %v", got)
	}
	ids := append(slices.Repeat([]api.ID{id(2, 7), id(1, 1)}, 1<<20), id(2, 5))
	if n, e := b.Until(ids, 75); n != 76 || e != api.OK || b.Stale(ids, 67) || !b.Stale(append(ids, id(4, 1)), 67) {
		t.Error(n, e)
	}
	if n, e := b.Until(append(ids, id(2, 1)), 75); n != 0 || e != api.ErrNone {
		t.Error(n, e)
	}
	for _, d := range []int{math.MinInt, math.MaxInt} {
		for _, asked := range []int{math.MinInt, 30, math.MaxInt} {
			if b.Learn(d, []api.Cred{member(d, d, 1)}, asked) != api.ErrArg || b.Hear(d, asked) != api.ErrArg {
				t.Error(d, asked)
			}
		}
	}
	if got, want := b.Held(20), m.held(20); !slices.Equal(got, want) {
		t.Errorf("Held = %v, want %v", got, want)
	}
}

// R5: lists that are equal count alike, whatever their capacity.
func TestCapacityDoesNotCount(t *testing.T) {
	for name, l := range lists(4) {
		_, roomy := within(l, member(4, 3000, 9))
		a, b := lease.New(1), lease.New(1)
		if x, y := a.Learn(4, slices.Clip(slices.Clone(l)), 10), b.Learn(4, roomy, 10); x != y || !slices.Equal(a.Held(10), b.Held(10)) {
			t.Errorf("%s: %v and %v", name, x, y)
		}
	}
}

// answers are what a long script of calls returns.
func answers() []string {
	var all []string
	r := rand.New(rand.NewSource(13))
	b, now := lease.New(1), 0
	for range 300 {
		now += r.Intn(12)
		e := random(r, now).tell(b)
		held := b.Held(now)
		n, wrong := b.Until(idsOf(held), now+20)
		all = append(all, fmt.Sprint(e, held, n, wrong, b.Stale(idsOf(held), now+20)))
		for d := range domains + 2 {
			all = append(all, strconv.FormatBool(b.Fresh(d, now)))
		}
	}
	return all
}

// R5: the same calls answer the same each time, from whichever goroutine.
func TestAgain(t *testing.T) {
	want := answers()
	var group sync.WaitGroup
	for range 8 {
		group.Go(func() {
			for range 3 {
				if !slices.Equal(answers(), want) {
					t.Error("other answers")
				}
			}
		})
	}
	group.Wait()
}
