package journal_test

import (
	"math/rand"
	"slices"
	"testing"

	"livery/api"
	"livery/journal"
	"livery/tape"
)

// state is what the sides of a tape have behind a crash, which is all that is left then.
type state struct {
	a, b string
}

// tape is a tape of that state.
func (s state) tape() *tape.Tape {
	return laid(s.a, s.b)
}

// left is the state of a tape behind a crash.
func left(x *tape.Tape) state {
	a, _ := x.Read(0)
	b, _ := x.Read(1)
	return state{string(a), string(b)}
}

// told is a state that can be read.
func (s state) told() string {
	return brief(s.a) + ", " + brief(s.b)
}

// keeps tells if a tape of that state isn't opened with these records.
func (s state) keeps(t *testing.T, told string, want []string) *journal.Journal {
	t.Helper()
	j := opens(t, told+": "+s.told(), s.tape())
	if got := records(j); !slices.Equal(got, want) {
		t.Fatalf("%s: %s: Records %s, want %s", told, s.told(), briefs(got), briefs(want))
	}
	return j
}

// eachCrash calls do with each state that is left behind what was done, for each number of units that are kept.
func eachCrash(done func() *tape.Tape, do func(s state, k, units int)) {
	units := done().Units()
	for k := range units + 1 {
		x := done()
		x.Crash(k)
		do(left(x), k, units)
	}
}

// on asks a journal for a deed.
func (d deed) on(j *journal.Journal) api.Errno {
	if d.renew {
		return j.Renew(listed(d.l))
	}
	return j.Append([]byte(d.l[0]))
}

// made are the records behind the deed.
func (d deed) made(before []string) []string {
	if d.renew {
		return d.l
	}
	return append(slices.Clone(before), d.l[0])
}

// openings calls do with each state that is left when the power goes off at each call of Open.
func (s state) openings(t *testing.T, do func(state)) {
	for fuse := range 5 {
		eachCrash(func() *tape.Tape {
			x := s.tape()
			x.Fuse(fuse)
			if _, e := journal.Open(x); e != api.OK && e != api.ErrDown {
				t.Fatalf("%s: with fuse %d Open = %v", s.told(), fuse, e)
			}
			return x
		}, func(s state, _, _ int) { do(s) })
	}
}

// deeds calls do with each state that is left when the power goes off at each call of a deed, or just behind it, and with the
// records that are due then.
func (s state) deeds(t *testing.T, d deed, do func(state, []string)) {
	before := records(opens(t, s.told(), s.tape()))
	for fuse := range d.calls() + 2 {
		var e api.Errno
		var size int
		eachCrash(func() *tape.Tape {
			x := s.tape()
			j := opens(t, s.told(), x)
			x.Fuse(fuse)
			e, size = d.on(j), d.size(j.Generation())
			if want := fuse < d.calls(); (e == api.ErrDown) != want || (e == api.OK) == want {
				t.Fatalf("%s: with fuse %d %s = %v", s.told(), fuse, briefs(d.l), e)
			}
			return x
		}, func(s state, k, units int) {
			if e == api.OK || units == size && k == units {
				do(s, d.made(before))
			} else {
				do(s, before)
			}
		})
	}
}

// P17.4: a power that goes off while a journal is made, again and again: it is made in the end.
func TestMakingIsInterrupted(t *testing.T) {
	seen := map[state]bool{}
	var from func(s state)
	from = func(s state) {
		if seen[s] {
			return
		}
		seen[s] = true
		if j := s.keeps(t, "made", nil); j.Generation() != 1 || j.Size() != 7 {
			t.Fatal(s.told(), j.Generation(), j.Size())
		}
		s.openings(t, from)
	}
	from(state{})
	for n := range 8 {
		if !seen[state{side(1)[:n], ""}] {
			t.Errorf("the first %d bytes were never left", n)
		}
	}
	if len(seen) != 8 {
		t.Errorf("%d states, want 8", len(seen))
	}
}

// P17.4: behind each deed, each fuse and each number of units that is kept, and again while it is opened.
func TestDeedsAreInterrupted(t *testing.T) {
	for _, first := range append(deeds(), deed{true, ones(20)}) {
		for _, second := range deeds() {
			x := tape.New()
			j := opens(t, "an empty tape", x)
			is(t, "the first deed", first.on(j), api.OK)
			is(t, "the second deed", second.on(j), api.OK)
			before := left(x)
			for _, d := range deeds() {
				before.deeds(t, d, func(s state, want []string) {
					s.keeps(t, briefs(d.l), want)
					s.openings(t, func(s state) { s.keeps(t, briefs(d.l), want) })
				})
			}
		}
	}
}

// P17.4: every sequence of four deeds, each one of which, and each Open, may be interrupted at each place: all states that can be
// reached keep what they have to.
func TestAllStates(t *testing.T) {
	few := []deed{{false, []string{"a"}}, {true, nil}, {true, []string{"c"}}}
	reached := map[state][]string{{}: nil}
	level := []state{{}}
	for range 4 {
		var next []state
		reach := func(s state, want []string) {
			known, ok := reached[s]
			if ok && !slices.Equal(known, want) {
				t.Fatalf("%s is left both by %s and by %s", s.told(), briefs(known), briefs(want))
			}
			if !ok {
				s.keeps(t, "reached", want)
				reached[s] = want
				next = append(next, s)
			}
		}
		for _, s := range level {
			s.openings(t, func(after state) { reach(after, reached[s]) })
			for _, d := range few {
				s.deeds(t, d, reach)
			}
		}
		level = next
	}
	if len(reached) < 1000 {
		t.Errorf("only %d states", len(reached))
	}
}

// chosen is a deed by chance, with records of many sizes, which there may be no room for.
func chosen(r *rand.Rand) deed {
	sizes := []int{1, 2, 3, 10, 50, 200, 255, 256, 1000, 5000, body}
	var l []string
	for range 1 + r.Intn(9) {
		l = append(l, long(sizes[r.Intn(len(sizes))]))
	}
	return deed{r.Intn(4) == 0, l}
}

// P17.4: a long life with many power failures, among records of all sizes and sides that are full: what is there when the tape is
// opened again is what was there, or what was being made.
func TestLongLife(t *testing.T) {
	for seed := range int64(8) {
		r := rand.New(rand.NewSource(1740 + seed))
		x := tape.New()
		var now []string
		kept, lost := 0, 0
		for range 150 {
			x.Fuse(r.Intn(12))
			j, e := journal.Open(x)
			if e == api.OK && !slices.Equal(records(j), now) {
				t.Fatalf("Records %s, want %s", briefs(records(j)), briefs(now))
			}
			next := now
			for e == api.OK {
				d := chosen(r)
				next = d.made(now)
				switch e = d.on(j); e {
				case api.OK:
					now = next
				case api.ErrRoom:
					next, e = now, api.OK
				}
				if x.Units() == 0 && r.Intn(8) == 0 {
					break
				}
			}
			if e != api.OK && e != api.ErrDown {
				t.Fatal(e)
			}
			x.Crash([]int{0, -1, x.Units(), x.Units() - 1, r.Int(), -r.Int()}[r.Intn(6)])
			switch got := left(x).keepsEither(t, now, next); {
			case slices.Equal(got, now):
				lost++
			default:
				now = got
				kept++
			}
		}
		if kept == 0 || lost == 0 {
			t.Errorf("seed %d: %d kept, %d lost", seed, kept, lost)
		}
	}
}

// keepsEither tells if a tape of that state isn't opened with one of two lists of records, and returns it.
func (s state) keepsEither(t *testing.T, before, after []string) []string {
	t.Helper()
	got := records(opens(t, s.told(), s.tape()))
	if !slices.Equal(got, before) && !slices.Equal(got, after) {
		t.Fatalf("%s: Records %s, want %s or %s", s.told(), briefs(got), briefs(before), briefs(after))
	}
	return got
}

// edges are the numbers of units that are kept which are tried where there are many: those about the ends of small and of large
// frames, from the first unit on and from the last one back.
func edges(units int) []int {
	var l []int
	for _, n := range []int{0, 1, 2, 3, 4, 5, 6, 9, 10, 11, 8195, 8196, 8197, 8204, 8205, 8206} {
		if n <= units {
			l = append(l, n, units-n)
		}
	}
	return l
}

// P17.4: large records and full sides.
func TestLargeDeedsAreInterrupted(t *testing.T) {
	large := slices.Repeat([]string{long(body)}, 7)
	full := append(slices.Clone(large), long(room-8-7*(body+4)-4))
	starts := []state{{side(1), ""}, {side(1, "a"), side(2, full...)}, {side(1, large...), frame(head(2, 3))}}
	for _, d := range []deed{{true, full}, {true, ones(many)}, {false, []string{long(body)}}, {false, []string{long(room - len(side(1, large...)) - 4)}}} {
		for _, s := range starts {
			before := records(opens(t, s.told(), s.tape()))
			for fuse := range d.calls() + 1 {
				done := func() (*tape.Tape, api.Errno) {
					x := s.tape()
					j := opens(t, s.told(), x)
					x.Fuse(fuse)
					return x, d.on(j)
				}
				x, e := done()
				for _, k := range edges(x.Units()) {
					want := before
					if e == api.OK || e == api.ErrDown && fuse == d.calls()-1 && k == x.Units() {
						want = d.made(before)
					}
					y, _ := done()
					y.Crash(k)
					left(y).keeps(t, briefs(d.l), want)
				}
			}
		}
	}
}
