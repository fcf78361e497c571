package timers_test

import (
	"fmt"
	"math/rand"
	"slices"
	"sync"
	"testing"

	"livery/api"
	"livery/timers"
)

// other is a timer that no test sets.
var other = at(-77, -77)

// overwrite writes to all that a list has, its spare room included.
func overwrite(l []timers.Timer) {
	l = l[:cap(l)]
	for i := range l {
		l[i] = other
	}
}

// R4: what All returns shares no memory, spare room included, with the queue, or with what was returned before.
func TestResultsAreNew(t *testing.T) {
	for _, size := range append([]int{0}, sizes()...) {
		for name, in := range arranged(spaced(size)) {
			q, m := made(t, in)
			first, second := q.All(), q.All()
			overwrite(first)
			if !slices.Equal(second, m) {
				t.Fatalf("%s: All = %v behind a change of another one", name, second)
			}
			check(t, name, q, m)
			_ = append(second[:0], other, other, other)
			check(t, name, q, m)
			drain(t, q, m)
		}
	}
}

// R4: behind a change of what All returned, the queue takes, moves and stops timers as before.
func TestChangesOfResultsDoNotCount(t *testing.T) {
	r := rand.New(rand.NewSource(41))
	x := mixes()["full"]
	q, m := timers.New(), model(nil)
	for range 2000 {
		overwrite(q.All())
		m = x.call(r).made(t, q, m)
		l := q.All()
		slices.Reverse(l)
	}
	drain(t, q, m)
}

// R4: what was returned stays as it is while the queue goes on.
func TestResultsStay(t *testing.T) {
	r := rand.New(rand.NewSource(42))
	for _, size := range sizes() {
		q, m := made(t, spaced(size))
		all := q.All()
		roomy := all[:cap(all)]
		before := slices.Clone(roomy)
		for range 200 {
			m = mixes()["few kinds"].call(r).made(t, q, m)
		}
		if !slices.Equal(roomy, before) {
			t.Fatalf("%v has become %v", before, roomy)
		}
		drain(t, q, m)
		if !slices.Equal(roomy, before) {
			t.Fatalf("%v has become %v", before, roomy)
		}
	}
}

// R4: two queues share nothing, also where they are told the same.
func TestTwoQueues(t *testing.T) {
	r := rand.New(rand.NewSource(43))
	a, b, idle := timers.New(), timers.New(), timers.New()
	m, n := model(nil), model(nil)
	for _, x := range spaced(40) {
		m, n = set(t, a, m, x.Kind, x.Due), set(t, b, n, x.Kind, x.Due)
	}
	for name, x := range mixes() {
		for range 100 {
			m = x.call(r).made(t, a, m)
			check(t, name, b, n)
		}
		for range 100 {
			n = x.call(r).made(t, b, n)
			check(t, name, a, m)
		}
		check(t, "idle", idle, nil)
	}
	drain(t, a, m)
	check(t, "behind the end of the other one", b, n)
	check(t, "new", timers.New(), nil)
	drain(t, b, n)
}

// P14.2: First and All change nothing, however often they are asked: the queue goes on as one that was never asked.
func TestAskingChangesNothing(t *testing.T) {
	for name, x := range mixes() {
		r := rand.New(rand.NewSource(44))
		asked, quiet := timers.New(), timers.New()
		for range 1500 {
			c := x.call(r)
			for range 3 {
				asked.First()
				asked.All()
				asked.Len()
			}
			if a, b := answer(asked, c), answer(quiet, c); a != b {
				t.Fatalf("%s: %v answers %s, and %s where nothing was asked", name, c, a, b)
			}
		}
		if a, b := popped(t, asked, great), popped(t, quiet, great); !slices.Equal(a, b) {
			t.Fatalf("%s: %v, and %v where nothing was asked", name, a, b)
		}
	}
}

// R2: calls that return an error or false change nothing, however often they are made.
func TestVainCallsChangeNothing(t *testing.T) {
	for _, in := range arranged(spaced(most)) {
		vain, quiet := timers.New(), timers.New()
		for _, x := range in {
			vain.Set(x.Kind, x.Due)
			quiet.Set(x.Kind, x.Due)
		}
		for _, n := range ends() {
			if vain.Set(n, n) != api.ErrFull || vain.Stop(n) {
				t.Fatalf("a timer of kind %d", n)
			}
			if _, is := vain.Pop(min(n, 9)); is {
				t.Fatalf("Pop(%d)", min(n, 9))
			}
		}
		r := rand.New(rand.NewSource(45))
		for range 500 {
			c := mixes()["full"].call(r)
			if a, b := answer(vain, c), answer(quiet, c); a != b {
				t.Fatalf("%v answers %s, and %s where nothing was called in vain", c, a, b)
			}
		}
		if a, b := vain.All(), quiet.All(); !slices.Equal(a, b) {
			t.Fatalf("%v and %v", a, b)
		}
	}
}

// answer makes a call, and is what it returns.
func answer(q *timers.Queue, c call) string {
	switch c.name {
	case 's':
		return fmt.Sprint(q.Set(c.kind, c.n))
	case 'x':
		return fmt.Sprint(q.Stop(c.kind))
	}
	return fmt.Sprint(q.Pop(c.n))
}

// R5: what All returns depends on which timers there are, and not on the order in which they were set, or on what was there before.
func TestOrderOfSettingDoesNotCount(t *testing.T) {
	for _, size := range sizes() {
		l := spaced(size)
		for name, in := range arranged(l) {
			q := timers.New()
			for _, x := range arranged(spaced(most))[name] {
				q.Set(x.Kind+5000, x.Due)
			}
			popped(t, q, great)
			for _, x := range in {
				q.Set(x.Kind, -x.Due)
			}
			for _, x := range arranged(l)["stepped"] {
				q.Set(x.Kind, x.Due)
			}
			if got := q.All(); !slices.Equal(got, l) {
				t.Fatalf("%s: All = %v", name, got)
			}
			drain(t, q, sorted(l))
		}
	}
}

// R1: no call panics or fails to end, with the ends of int, in a queue that is full and is emptied again and again.
func TestManyCalls(t *testing.T) {
	q := timers.New()
	for i := range 300000 {
		if e := q.Set(i, -i); (e == api.OK) != (i < most) {
			t.Fatalf("Set(%d, ..) = %v", i, e)
		}
	}
	for i := range 20000 {
		q.Set(i%most, great-i)
		q.Stop(i % 7)
		q.Set(i%7, least+i)
		q.Pop(least + i)
		q.Set(i%7, i)
	}
	if n := len(popped(t, q, great)); n != most || q.Len() != 0 {
		t.Error(n)
	}
	for i := range 20000 {
		for _, n := range []int{i, -i, least + i, great - i} {
			if q.Set(n, n) != api.OK || !q.Stop(n) || q.Stop(n) {
				t.Fatal(n)
			}
		}
	}
	check(t, "behind all", q, nil)
}

// answers are what a long sequence of calls returns.
func answers() []string {
	var all []string
	for _, name := range []string{"few ticks", "full", "ends"} {
		r := rand.New(rand.NewSource(46))
		q, x := timers.New(), mixes()[name]
		for range 600 {
			c := x.call(r)
			all = append(all, answer(q, c), fmt.Sprint(q.First()), fmt.Sprint(q.Len(), q.All()))
		}
	}
	return all
}

// R5: the same calls answer the same each time, from whichever goroutine.
func TestAgain(t *testing.T) {
	want := answers()
	var group sync.WaitGroup
	for range 8 {
		group.Go(func() {
			for range 3 {
				if !slices.Equal(answers(), want) {
					t.Error("other answers")
				}
			}
		})
	}
	group.Wait()
}
