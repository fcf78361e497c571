package timers_test

import (
	"math"
	"slices"
	"sort"
	"strconv"
	"testing"

	"livery/api"
	"livery/timers"
)

const (
	most  = 64 // MaxTimers
	least = math.MinInt
	great = math.MaxInt
)

// model is a queue as the chapter's words have it: a list of timers, in their order. A model that a call has changed is
// a new one.
type model []timers.Timer

// precedes reports whether a precedes b in the chapter's order.
func precedes(a, b timers.Timer) bool {
	return a.Due < b.Due || a.Due == b.Due && a.Kind < b.Kind
}

// sorted is a new model of the timers of l.
func sorted(l []timers.Timer) model {
	m := append(model(nil), l...)
	sort.Slice(m, func(i, j int) bool { return precedes(m[i], m[j]) })
	return m
}

// stop is Stop, as P14.1 has it.
func (m model) stop(kind int) (model, bool) {
	var left model
	for _, x := range m {
		if x.Kind != kind {
			left = append(left, x)
		}
	}
	return left, len(left) < len(m)
}

// set is Set, as P14.1 has it.
func (m model) set(kind, due int) (model, api.Errno) {
	left, found := m.stop(kind)
	if !found && len(m) >= most {
		return m, api.ErrFull
	}
	return sorted(append(left, at(due, kind))), api.OK
}

// first is First, as P14.2 has it.
func (m model) first() (timers.Timer, bool) {
	if len(m) == 0 {
		return timers.Timer{}, false
	}
	return m[0], true
}

// pop is Pop, as P14.2 has it.
func (m model) pop(now int) (model, timers.Timer, bool) {
	if len(m) == 0 || now < m[0].Due {
		return m, timers.Timer{}, false
	}
	return m[1:], m[0], true
}

// at is a timer.
func at(due, kind int) timers.Timer {
	return timers.Timer{Due: due, Kind: kind}
}

// check tells if a queue is not as m, by all that can be asked of it.
func check(t *testing.T, when string, q *timers.Queue, m model) {
	t.Helper()
	if got := q.Len(); got != len(m) {
		t.Fatalf("%s: Len = %d, want %d", when, got, len(m))
	}
	want, there := m.first()
	if got, is := q.First(); got != want || is != there {
		t.Fatalf("%s: First = %v, %v, want %v, %v", when, got, is, want, there)
	}
	if got := q.All(); !slices.Equal(got, m) {
		t.Fatalf("%s: All = %v, want %v", when, got, m)
	}
}

// set, stop and pop make a call of a queue that is as m, and tell if it doesn't return what it should, or if the queue is
// not as it should be behind it; they return the model behind it.
func set(t *testing.T, q *timers.Queue, m model, kind, due int) model {
	t.Helper()
	next, want := m.set(kind, due)
	if got := q.Set(kind, due); got != want {
		t.Fatalf("Set(%d, %d) = %v, want %v, behind %v", kind, due, got, want, m)
	}
	check(t, "behind Set("+strconv.Itoa(kind)+", "+strconv.Itoa(due)+")", q, next)
	return next
}

func stop(t *testing.T, q *timers.Queue, m model, kind int) model {
	t.Helper()
	next, want := m.stop(kind)
	if got := q.Stop(kind); got != want {
		t.Fatalf("Stop(%d) = %v, want %v, behind %v", kind, got, want, m)
	}
	check(t, "behind Stop("+strconv.Itoa(kind)+")", q, next)
	return next
}

func pop(t *testing.T, q *timers.Queue, m model, now int) model {
	t.Helper()
	next, want, there := m.pop(now)
	if got, is := q.Pop(now); got != want || is != there {
		t.Fatalf("Pop(%d) = %v, %v, want %v, %v, behind %v", now, got, is, want, there, m)
	}
	check(t, "behind Pop("+strconv.Itoa(now)+")", q, next)
	return next
}

// made returns a queue that the timers of l were added to in this order, and its model.
func made(t *testing.T, l []timers.Timer) (*timers.Queue, model) {
	t.Helper()
	q := timers.New()
	for _, x := range l {
		if e := q.Set(x.Kind, x.Due); e != api.OK {
			t.Fatalf("Set(%d, %d) = %v", x.Kind, x.Due, e)
		}
	}
	m := sorted(l)
	check(t, "made", q, m)
	return q, m
}

// drain pops all, and tells if they don't come as m has them.
func drain(t *testing.T, q *timers.Queue, m model) {
	t.Helper()
	for range len(m) {
		m = pop(t, q, m, great)
	}
	pop(t, q, m, great)
}

// spaced are so many timers in their order, ten ticks apart, whose kinds are not in that order.
func spaced(size int) []timers.Timer {
	l := make([]timers.Timer, size)
	for i := range l {
		l[i] = at(10*i+10, 1000+i*37%101) // 101 is a prime greater than MaxTimers: all kinds differ
	}
	return l
}

// arranged are the same timers in several orders, by which a heap gets different shapes.
func arranged(l []timers.Timer) map[string][]timers.Timer {
	falling := slices.Clone(l)
	slices.Reverse(falling)
	stepped, halves := slices.Clone(l), slices.Clone(l)
	for i := range l {
		if len(l)%7 != 0 {
			stepped[i] = l[i*7%len(l)]
		}
		halves[i] = l[i/2+i%2*((len(l)+1)/2)]
	}
	deep := slices.Concat(l[:min(1, len(l))], subtrees(l[min(1, len(l)):]))
	return map[string][]timers.Timer{"rising": slices.Clone(l), "falling": falling, "stepped": stepped, "halves": halves, "deep": deep}
}

// subtrees are the timers behind the first one, such that in a heap all that is below its left branch comes later than all
// that is below its right one: the last one that fills a hole may then have to rise.
func subtrees(l []timers.Timer) []timers.Timer {
	var left, right []int
	for i := range l {
		n := i + 2 // the place in the heap, from 1 on
		for n > 3 {
			n /= 2
		}
		if n == 2 {
			left = append(left, i)
		} else {
			right = append(right, i)
		}
	}
	all := make([]timers.Timer, len(l))
	for i, place := range slices.Concat(right, left) {
		all[place] = l[i]
	}
	return all
}

// sizes are numbers of timers: few, those about a full row of a heap, and as many as may be.
func sizes() []int {
	return []int{1, 2, 3, 4, 5, 6, 7, 8, 9, 12, 15, 16, 31, 32, 33, 62, 63, 64}
}

// ends are numbers about the ends of int, about zero, and about those that other chapters name.
func ends() []int {
	return []int{least, least + 1, -1 << 62, -1<<32 - 1, -1 << 32, -1 << 31, -101, -2, -1, 0, 1, 2, 101, 1 << 31, 1 << 32, 1<<32 + 1, 1 << 40, 1<<40 + 16, 1 << 62, great - 1, great}
}

// The chapter's number is that of api.
func TestLimit(t *testing.T) {
	if api.MaxTimers != most {
		t.Error(api.MaxTimers)
	}
}

// P14.1, P14.2: the chapter's examples.
func TestExamples(t *testing.T) {
	q := timers.New()
	for _, x := range []timers.Timer{at(9, 1), at(5, 2), at(5, 3)} {
		if e := q.Set(x.Kind, x.Due); e != api.OK {
			t.Fatal(e)
		}
	}
	for i, want := range []struct {
		x  timers.Timer
		is bool
	}{{timers.Timer{Due: 5, Kind: 2}, true}, {timers.Timer{Due: 5, Kind: 3}, true}, {}} {
		if x, is := q.Pop(5); x != want.x || is != want.is {
			t.Errorf("Pop(5) = %v, %v at call %d", x, is, i)
		}
	}
	if x, is := q.Pop(8); is || x != (timers.Timer{}) {
		t.Errorf("Pop(8) = %v, %v, and the first timer is due at 9", x, is)
	}
	if e := q.Set(1, 4); e != api.OK {
		t.Error(e)
	}
	if x, is := q.Pop(5); !is || x != (timers.Timer{Due: 4, Kind: 1}) {
		t.Errorf("Pop(5) = %v, %v", x, is)
	}
	if n := q.Len(); n != 0 {
		t.Error(n)
	}
}

// P14.1, P14.2: a new queue is empty, and there is nothing in it to find, to stop or to pop.
func TestNew(t *testing.T) {
	q := timers.New()
	if q == nil {
		t.Fatal("New returns nil")
	}
	check(t, "new", q, nil)
	for _, n := range ends() {
		if q.Stop(n) {
			t.Errorf("Stop(%d) of an empty queue", n)
		}
		if x, is := q.Pop(n); is || x != (timers.Timer{}) {
			t.Errorf("Pop(%d) of an empty queue = %v, %v", n, x, is)
		}
		check(t, "new", q, nil)
	}
}

// P14.1, P14.2: one timer, of each kind and with each due tick.
func TestOne(t *testing.T) {
	for _, kind := range ends() {
		for _, due := range ends() {
			q := timers.New()
			m := set(t, q, nil, kind, due)
			if x, is := q.First(); !is || x != at(due, kind) || q.Len() != 1 {
				t.Fatalf("Set(%d, %d): First = %v, %v", kind, due, x, is)
			}
			for _, now := range ends() {
				if now < due {
					m = pop(t, q, m, now)
				}
			}
			if m = pop(t, q, m, due); len(m) != 0 || q.Stop(kind) {
				t.Fatalf("Set(%d, %d): is left", kind, due)
			}
			pop(t, q, m, great)
		}
	}
}

// P14.1: Set of an existing timer, at each place of the queue, to a due tick by which it comes to each other place, or
// stays: smaller, greater or the same.
func TestSetMoves(t *testing.T) {
	for _, size := range []int{1, 2, 3, 4, 7, 8, 15, 16, 33, 63, 64} {
		l := spaced(size)
		for name, in := range arranged(l) {
			for i, x := range l {
				q, m := made(t, in)
				for _, due := range []int{x.Due, 5, x.Due, 10*size + 5, x.Due, x.Due - 1, x.Due + 1, 10*(size/2) + 5, x.Due, 15, 10*size - 5, least, great} {
					m = set(t, q, m, x.Kind, due)
				}
				for j := range size {
					m = set(t, q, m, x.Kind, 10*j+5)
				}
				if m = stop(t, q, m, x.Kind); len(m) != size-1 {
					t.Fatalf("%s: %d of %d", name, i, size)
				}
			}
		}
	}
}

// P14.1: Set of an existing timer by which several have the same due tick: their kinds decide.
func TestSetToTheSame(t *testing.T) {
	for _, size := range sizes() {
		l := spaced(size)
		for _, in := range arranged(l) {
			q, m := made(t, in)
			for _, x := range l {
				m = set(t, q, m, x.Kind, 7)
			}
			for i, x := range q.All() {
				if x.Due != 7 || i > 0 && m[i-1].Kind >= x.Kind {
					t.Fatalf("All = %v", m)
				}
			}
			for _, x := range in {
				m = set(t, q, m, x.Kind, 8)
			}
			drain(t, q, m)
		}
	}
}

// P14.1: Set of new kinds and of existing ones with 63 and 64 timers; an error changes nothing.
func TestFull(t *testing.T) {
	l := spaced(most)
	for _, in := range arranged(l) {
		q, m := made(t, in[:most-1])
		m = set(t, q, m, in[5].Kind, 3)
		m = set(t, q, m, in[most-1].Kind, in[most-1].Due)
		for _, due := range append(ends(), 15, 335, 645) {
			for _, kind := range append(ends(), 999, 1101) {
				if e := q.Set(kind, due); e != api.ErrFull {
					t.Fatalf("Set(%d, %d) of a new kind with 64 timers: %v", kind, due, e)
				}
				check(t, "full", q, m)
			}
		}
		for _, x := range l {
			for _, due := range []int{least, 4, x.Due, 335, great, x.Due} {
				if e := q.Set(x.Kind, due); e != api.OK {
					t.Fatalf("Set(%d, %d) of an existing kind with 64 timers: %v", x.Kind, due, e)
				}
			}
		}
		m, _ = m.set(in[5].Kind, in[5].Due)
		check(t, "full again", q, m)
		if q.Stop(999) || q.Stop(0) {
			t.Error("what wasn't added is there")
		}
		drain(t, q, m)
	}
}

// P14.1: behind Stop, and behind Pop, there is room for one more, and for no second one; a kind that was stopped or popped
// is a new one.
func TestFullAndRoom(t *testing.T) {
	for name, in := range arranged(spaced(most)) {
		q, m := made(t, in)
		for i, x := range in {
			m = stop(t, q, m, x.Kind)
			m = set(t, q, m, 2000+i, 5+i)
			m = set(t, q, m, x.Kind, 1)
			if len(m) != most || q.Set(x.Kind, 1) != api.ErrFull {
				t.Fatalf("%s: there is more room than there was", name)
			}
		}
		for i := range most {
			m = pop(t, q, m, great)
			m = set(t, q, m, 3000+i, 5000+i)
			if e := q.Set(2000+i, 5); e != api.ErrFull || q.Len() != most {
				t.Fatalf("%s: Set of a kind that was popped: %v", name, e)
			}
		}
		drain(t, q, m)
	}
}

// P14.1: Stop of each timer, at each place of queues of all sizes; again; and Set of it again, with the same due tick and
// with others.
func TestStop(t *testing.T) {
	for _, size := range sizes() {
		l := spaced(size)
		for _, in := range arranged(l) {
			for i, x := range l {
				q, m := made(t, in)
				m = stop(t, q, m, x.Kind)
				m = stop(t, q, m, x.Kind)
				if len(m) != size-1 {
					t.Fatalf("Stop of %d of %d: %v", i, size, m)
				}
				if i%5 == 0 {
					m = set(t, q, m, x.Kind, x.Due)
					m = stop(t, q, m, x.Kind)
				}
				m = set(t, q, m, x.Kind, 10*(i*11%size)+5)
				drain(t, q, m)
			}
		}
	}
}

// P14.1: Stop of all, one behind the other, in several orders; each is there once.
func TestStopAll(t *testing.T) {
	for _, size := range sizes() {
		l := spaced(size)
		for _, in := range arranged(l) {
			for _, out := range arranged(l) {
				q, m := made(t, in)
				for _, x := range out {
					m = stop(t, q, m, x.Kind)
				}
				for _, x := range out {
					m = stop(t, q, m, x.Kind)
				}
				check(t, "behind all", q, nil)
			}
		}
	}
}

// P14.1: Stop of kinds that aren't there: near ones, due ticks, places, and ends.
func TestStopNone(t *testing.T) {
	for _, size := range []int{0, 1, 2, 17, 63, 64} {
		l := spaced(size)
		q, m := made(t, l)
		for _, kind := range append(ends(), 3, 10, 20, 63, 64, 65, 640, 999, 1101) {
			m = stop(t, q, m, kind)
		}
		if len(m) != size {
			t.Error(m)
		}
		for _, x := range l {
			m = stop(t, q, m, -x.Kind)
			m = stop(t, q, m, x.Kind+1<<32)
		}
		drain(t, q, m)
	}
}

// P14.2: First and All with none, one and many; each asked again and again.
func TestFirstAndAll(t *testing.T) {
	for _, size := range append([]int{0}, sizes()...) {
		l := spaced(size)
		for name, in := range arranged(l) {
			q, m := made(t, in)
			for range 3 {
				check(t, name, q, m)
			}
			if got := q.All(); !slices.Equal(got, l) {
				t.Fatalf("%s: All = %v, want %v", name, got, l)
			}
			x, is := q.First()
			if is != (size > 0) || size > 0 && x != l[0] || size == 0 && x != (timers.Timer{}) {
				t.Fatalf("%s: First of %d = %v, %v", name, size, x, is)
			}
			drain(t, q, m)
		}
	}
}

// P14.2: Pop one tick ahead of the first timer's due tick, at it, and behind it, until the queue is empty.
func TestPop(t *testing.T) {
	for _, size := range sizes() {
		l := spaced(size)
		for _, in := range arranged(l) {
			for late := range 3 {
				q, m := made(t, in)
				for i, x := range l {
					for _, now := range []int{least, -1, 0, x.Due - 9, x.Due - 1} {
						m = pop(t, q, m, now)
					}
					if len(m) != size-i {
						t.Fatalf("popped ahead of its time: %v", m)
					}
					if m = pop(t, q, m, x.Due+late); len(m) != size-i-1 {
						t.Fatalf("not popped at its time: %v", m)
					}
					m = pop(t, q, m, x.Due+late)
				}
				pop(t, q, m, great)
			}
		}
	}
}

// P14.2: several timers with the same due tick come in the order of their kinds, whatever these are.
func TestSameDue(t *testing.T) {
	for _, due := range ends() {
		var l []timers.Timer
		for _, kind := range ends() {
			l = append(l, at(due, kind))
		}
		for _, in := range arranged(l) {
			q, m := made(t, in)
			if due > least {
				m = pop(t, q, m, due-1)
			}
			for _, x := range l {
				if got, is := q.Pop(due); !is || got != x {
					t.Fatalf("Pop(%d) = %v, %v, want %v", due, got, is, x)
				}
				m = m[1:]
				check(t, "popped", q, m)
			}
		}
	}
}

// P14.2: due ticks and kinds of all sizes: the due tick decides, and the kind only where due ticks are equal.
func TestEndsOfInt(t *testing.T) {
	all := ends()
	var same, opposite, paired []timers.Timer
	for i, due := range all {
		same = append(same, at(due, due))
		opposite = append(opposite, at(due, all[len(all)-1-i]))
		paired = append(paired, at(all[i/2*2], all[(i*5+2)%len(all)]))
	}
	for _, l := range [][]timers.Timer{same, opposite, paired} {
		for _, in := range arranged(l) {
			q, m := made(t, in)
			for _, now := range all {
				for len(m) > 0 && m[0].Due <= now {
					m = pop(t, q, m, now)
				}
				m = pop(t, q, m, now)
			}
			if len(m) != 0 {
				t.Fatalf("%v are left", m)
			}
		}
	}
}
