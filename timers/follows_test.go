package timers_test

import (
	"math/rand"
	"slices"
	"testing"

	"livery/api"
	"livery/timers"
)

// call is a call that changes a queue: Set of the kind, to n; Stop of it; or Pop at n.
type call struct {
	name    byte
	kind, n int
}

// made calls it.
func (c call) made(t *testing.T, q *timers.Queue, m model) model {
	t.Helper()
	switch c.name {
	case 's':
		return set(t, q, m, c.kind, c.n)
	case 'x':
		return stop(t, q, m, c.kind)
	}
	return pop(t, q, m, c.n)
}

// fewCalls are all calls with three kinds and three ticks.
func fewCalls() []call {
	var l []call
	for n := 1; n <= 3; n++ {
		for kind := 1; kind <= 3; kind++ {
			l = append(l, call{'s', kind, n})
		}
		l = append(l, call{'x', n, 0}, call{'p', 0, n})
	}
	return l
}

// P14.1, P14.2: all sequences of four of these calls.
func TestAllShortSequences(t *testing.T) {
	all := fewCalls()
	for _, a := range all {
		for _, b := range all {
			for _, c := range all {
				for _, d := range all {
					q, m := timers.New(), model(nil)
					for _, x := range []call{a, b, c, d} {
						m = x.made(t, q, m)
					}
				}
			}
		}
	}
}

// mix is from what the calls of a long sequence are chosen.
type mix struct {
	kinds, ticks     []int
	sets, stops, all int // of so many calls so many are Set, so many Stop, and the rest Pop
}

// mixes are several.
func mixes() map[string]mix {
	return map[string]mix{
		"few kinds":         {rising(-4, 9), rising(-10, 30), 5, 2, 10},
		"few ticks":         {rising(1, 70), rising(0, 4), 6, 2, 10},
		"full":              {rising(-40, 90), rising(-50, 200), 13, 2, 16},
		"always full":       {rising(0, 200), rising(0, 1000), 30, 1, 32},
		"more stopped":      {rising(1, 64), rising(0, 100), 6, 5, 12},
		"ends":              {ends(), ends(), 6, 2, 10},
		"many kinds, ends":  {slices.Concat(ends(), rising(100, 70)), slices.Concat(ends(), rising(20, 9)), 9, 2, 13},
		"nothing is popped": {rising(1, 80), rising(1, 500), 7, 3, 10},
	}
}

// rising are so many numbers from first on.
func rising(first, size int) []int {
	l := make([]int, size)
	for i := range l {
		l[i] = first + i
	}
	return l
}

// chosen is one of l.
func chosen(r *rand.Rand, l []int) int {
	return l[r.Intn(len(l))]
}

// call is a call of the mix.
func (x mix) call(r *rand.Rand) call {
	switch n := r.Intn(x.all); {
	case n < x.sets:
		return call{'s', chosen(r, x.kinds), chosen(r, x.ticks)}
	case n < x.sets+x.stops:
		return call{'x', chosen(r, x.kinds), 0}
	}
	return call{'p', 0, chosen(r, x.ticks)}
}

// P14.1, P14.2: long sequences of calls, against a plain list that is sorted each time.
func TestLongSequences(t *testing.T) {
	for name, x := range mixes() {
		t.Run(name, func(t *testing.T) {
			for seed := range int64(4) {
				r := rand.New(rand.NewSource(14 + seed))
				q, m := timers.New(), model(nil)
				for range 2500 {
					m = x.call(r).made(t, q, m)
				}
				drain(t, q, m)
			}
		})
	}
}

// popped are the timers that are popped one by one at now, until there is none.
func popped(t *testing.T, q *timers.Queue, now int) []timers.Timer {
	t.Helper()
	var l []timers.Timer
	for range most + 1 {
		x, is := q.Pop(now)
		if !is {
			if x != (timers.Timer{}) {
				t.Fatalf("Pop(%d) = %v, false", now, x)
			}
			return l
		}
		l = append(l, x)
	}
	t.Fatalf("Pop(%d) doesn't end", now)
	return nil
}

// splits tells if out and left are not the timers that were there, once each, those due at now in their order.
func splits(t *testing.T, now int, there map[int]int, out, left []timers.Timer) {
	t.Helper()
	for i, x := range out {
		if x.Due > now {
			t.Fatalf("%v comes at %d, ahead of its time", x, now)
		}
		if i > 0 && !precedes(out[i-1], x) {
			t.Fatalf("%v comes behind %v", x, out[i-1])
		}
	}
	for _, x := range left {
		if x.Due <= now {
			t.Fatalf("%v doesn't come at %d", x, now)
		}
	}
	both := slices.Concat(out, left)
	kinds := map[int]int{}
	for _, x := range both {
		kinds[x.Kind]++
		if due, found := there[x.Kind]; !found || due != x.Due || kinds[x.Kind] > 1 {
			t.Fatalf("%v wasn't set, or comes twice", x)
		}
	}
	if len(both) != len(there) {
		t.Fatalf("%d timers, of %d", len(both), len(there))
	}
}

// P14.3: timers that are popped one by one at the same tick come in order, none is lost, and none comes before its time;
// also where more were set, set anew and stopped since the ones before.
func TestPoppedInOrder(t *testing.T) {
	for _, x := range mixes() {
		for seed := range int64(8) {
			r := rand.New(rand.NewSource(140 + seed))
			q, there := timers.New(), map[int]int{}
			ticks := slices.Clone(x.ticks)
			slices.Sort(ticks)
			for _, now := range ticks {
				change(t, r, x, q, there)
				out := popped(t, q, now)
				splits(t, now, there, out, q.All())
				for _, o := range out {
					delete(there, o.Kind)
				}
				if again := popped(t, q, now); len(again) != 0 {
					t.Fatalf("%v come again", again)
				}
			}
		}
	}
}

// change sets and stops some timers; there are those that are there, by kind.
func change(t *testing.T, r *rand.Rand, x mix, q *timers.Queue, there map[int]int) {
	t.Helper()
	for range r.Intn(90) {
		kind, due := chosen(r, x.kinds), chosen(r, x.ticks)
		_, found := there[kind]
		if r.Intn(4) == 0 {
			if q.Stop(kind) != found {
				t.Fatalf("Stop(%d) = %v", kind, !found)
			}
			delete(there, kind)
			continue
		}
		want := api.OK
		if !found && len(there) == most {
			want = api.ErrFull
		} else {
			there[kind] = due
		}
		if e := q.Set(kind, due); e != want {
			t.Fatalf("Set(%d, %d) = %v, want %v", kind, due, e, want)
		}
	}
}

// P14.3: as time goes on, each timer comes at the first tick that isn't ahead of its due tick, and at no other.
func TestEachAtItsTime(t *testing.T) {
	for _, step := range []int{1, 3, 10, 64, 1000} {
		for name, in := range arranged(spaced(most)) {
			q, _ := made(t, in)
			came := 0
			for now := 0; now <= 10*most+step; now += step {
				for _, x := range popped(t, q, now) {
					if x.Due > now || x.Due <= now-step {
						t.Fatalf("%s: %v comes at %d", name, x, now)
					}
					came++
				}
			}
			if came != most || q.Len() != 0 {
				t.Fatalf("%s: %d came", name, came)
			}
		}
	}
}

// P14.3: timers that are set again when they come, as a domain does it: each goes on, and none keeps back another one.
func TestSetAgain(t *testing.T) {
	for _, others := range []int{1, 2, 15, 32} {
		q, m := timers.New(), model(nil)
		every := map[int]int{}
		for d := 1; d <= others; d++ {
			every[d], every[100+d] = 16, 8
			m = set(t, q, m, d, 5)
			m = set(t, q, m, 100+d, 5)
		}
		for now := 5; now < 200; now++ {
			for _, x := range slices.Clone(m) {
				if x.Due > now {
					break
				}
				if (now-5)%every[x.Kind] != 0 {
					t.Fatalf("%v at %d", x, now)
				}
				m = pop(t, q, m, now)
				m = set(t, q, m, x.Kind, now+every[x.Kind])
			}
			m = pop(t, q, m, now)
			if len(m) != 2*others {
				t.Fatalf("%d timers at %d", len(m), now)
			}
		}
	}
}
