package lease_test

import (
	"math"
	"slices"
	"testing"

	"livery/api"
	"livery/lease"
)

// P13.2: Held at the tick ahead of an end, at it and behind it, by each tick at which may be asked.
func TestHeldAtEnds(t *testing.T) {
	for _, x := range []struct {
		asked, until int
	}{
		{0, 56}, {1, 57}, {10, 66}, {1 << 20, 1<<20 + 56}, {1 << 32, 1<<32 + 56},
		{end - 58, end - 2}, {end - 57, end - 1}, {end - 56, end}, {end - 55, end}, {end - 2, end}, {end - 1, end}, {end, end},
	} {
		b, _ := made(t, 2, learn(1, members(1, 8, 3), x.asked))
		want := []api.Held{{Cred: member(1, 3, 1), Until: x.until}, {Cred: member(1, 8, 0), Until: x.until}}
		for _, now := range append(numbers(), x.asked-1, x.asked, x.asked+1, x.until-2, x.until-1, x.until, x.until+1) {
			held := now < x.until && now < end
			got := b.Held(now)
			if held && !slices.Equal(got, want) || !held && len(got) != 0 {
				t.Errorf("asked at %d: Held(%d) = %v", x.asked, now, got)
			}
			n, e := b.Until([]api.ID{id(1, 8)}, now)
			if held && (n != x.until || e != api.OK) || !held && (n != 0 || e != api.ErrNone) {
				t.Errorf("asked at %d: Until at %d = %d, %v", x.asked, now, n, e)
			}
		}
	}
}

// P13.2: Held of all domains, each with another end, is in the order of the IDs, in whichever order the answers came.
func TestHeldOrder(t *testing.T) {
	for own := 1; own <= domains; own++ {
		for turn := 1; turn <= domains; turn += 2 { // an odd number, so that each domain has its turn
			b, m := lease.New(own), model{own: own}
			for i := range domains {
				d := (i*turn+own)%domains + 1
				m = try(t, b, m, learn(d, members(d, 60-i, greatest, 2*d, 1), 100+5*i))
			}
			all := b.Held(0)
			if len(all) != 4*(domains-1) || !slices.IsSortedFunc(all, byID) {
				t.Fatalf("Held = %v", all)
			}
			for now := 90; now < 260; now++ {
				if got, want := b.Held(now), m.held(now); !slices.Equal(got, want) || !slices.IsSortedFunc(got, byID) {
					t.Fatalf("Held(%d) = %v, want %v", now, got, want)
				}
			}
		}
	}
}

// byID is the order of IDs, as chapter 5 has it.
func byID(x, y api.Held) int {
	a, b := x.Cred.ID, y.Cred.ID
	if a.Domain != b.Domain {
		return a.Domain - b.Domain
	}
	return a.Seq - b.Seq
}

// P13.2: Held of three domains, spelt out.
func TestHeldExamples(t *testing.T) {
	b, _ := made(t, 2, learn(16, members(16, 1), 30), learn(3, members(3, 7, 5), 10), learn(1, members(1, 9), 20), learn(4, nil, 40), hear(5, 40))
	for _, x := range []struct {
		now int
		ids []api.ID
	}{
		{math.MinInt, []api.ID{id(1, 9), id(3, 5), id(3, 7), id(16, 1)}}, {0, []api.ID{id(1, 9), id(3, 5), id(3, 7), id(16, 1)}}, {65, []api.ID{id(1, 9), id(3, 5), id(3, 7), id(16, 1)}},
		{66, []api.ID{id(1, 9), id(16, 1)}}, {75, []api.ID{id(1, 9), id(16, 1)}}, {76, []api.ID{id(16, 1)}}, {85, []api.ID{id(16, 1)}}, {86, nil}, {end, nil}, {math.MaxInt, nil},
		{20, []api.ID{id(1, 9), id(3, 5), id(3, 7), id(16, 1)}}, // an earlier tick again
	} {
		got := b.Held(x.now)
		if !slices.Equal(idsOf(got), x.ids) {
			t.Errorf("Held(%d) = %v, want %v", x.now, got, x.ids)
		}
		for _, h := range got {
			if want := map[int]int{1: 76, 3: 66, 16: 86}[h.Cred.ID.Domain]; h.Until != want {
				t.Errorf("Held(%d): %v", x.now, h)
			}
		}
	}
}

// P13.2: Until of IDs that are none, of own alone, of others, mixed, twice, not held, over at now, or of what isn't a domain.
func TestUntilExamples(t *testing.T) {
	b, _ := made(t, 2, learn(16, members(16, 1), 30), learn(3, members(3, 7, 5), 10), learn(1, members(1, 9), 20), learn(4, nil, 40), hear(5, 40), learn(6, members(6, 1), end-20))
	own, held := id(2, 77), id(3, 5)
	for i, x := range []struct {
		ids  []api.ID
		now  int
		want int // 0: ErrNone
	}{
		{nil, 0, end}, {nil, 66, end}, {nil, end, end}, {nil, math.MaxInt, end}, {nil, math.MinInt, end}, {[]api.ID{}, 5, end},
		{[]api.ID{own}, 0, end}, {[]api.ID{own, own}, 500, end}, {[]api.ID{id(2, 0), id(2, -1), id(2, 4001), id(2, math.MaxInt), id(2, math.MinInt)}, end, end}, {[]api.ID{own}, math.MaxInt, end},
		{[]api.ID{held}, 0, 66}, {[]api.ID{held}, math.MinInt, 66}, {[]api.ID{held}, 65, 66}, {[]api.ID{held}, 66, 0}, {[]api.ID{held}, 67, 0}, {[]api.ID{held}, end, 0}, {[]api.ID{held}, math.MaxInt, 0},
		{[]api.ID{held, id(3, 7)}, 30, 66}, {[]api.ID{id(3, 7), held, held, id(3, 7)}, 30, 66}, {[]api.ID{id(16, 1), id(1, 9)}, 30, 76}, {[]api.ID{id(1, 9), id(16, 1)}, 30, 76}, {[]api.ID{id(16, 1), held, id(1, 9)}, 30, 66}, {[]api.ID{id(16, 1), id(1, 9)}, 75, 76}, {[]api.ID{id(16, 1)}, 85, 86},
		{[]api.ID{own, held}, 30, 66}, {[]api.ID{held, own}, 30, 66}, {[]api.ID{own, id(16, 1), own, id(1, 9), own}, 30, 76}, {[]api.ID{own, held, own}, 66, 0}, {[]api.ID{held, own}, 66, 0}, {[]api.ID{own, held}, 66, 0},
		{[]api.ID{id(16, 1), held}, 66, 0}, {[]api.ID{held, id(16, 1)}, 66, 0}, {[]api.ID{id(16, 1), id(1, 9)}, 76, 0}, {[]api.ID{id(16, 1)}, 86, 0},
		{[]api.ID{id(3, 6)}, 30, 0}, {[]api.ID{held, id(3, 6)}, 30, 0}, {[]api.ID{id(3, 6), held}, 30, 0}, {[]api.ID{own, id(3, 1)}, 30, 0}, {[]api.ID{id(16, 5)}, 30, 0}, {[]api.ID{id(1, 5)}, 30, 0}, {[]api.ID{id(3, 9)}, 30, 0}, {[]api.ID{id(1, 1)}, 30, 0},
		{[]api.ID{id(4, 1)}, 41, 0}, {[]api.ID{id(5, 1)}, 41, 0}, {[]api.ID{id(7, 1)}, 41, 0}, {[]api.ID{{}}, 30, 0}, {[]api.ID{id(0, 5)}, 30, 0}, {[]api.ID{id(17, 1)}, 30, 0}, {[]api.ID{id(-3, 5)}, 30, 0}, {[]api.ID{held, id(17, 5)}, 30, 0}, {[]api.ID{own, id(0, 0)}, 30, 0}, {[]api.ID{id(math.MinInt, 5)}, 30, 0}, {[]api.ID{id(math.MaxInt, 5)}, 30, 0}, {[]api.ID{id(1<<32+3, 5)}, 30, 0}, {[]api.ID{id(3, 1<<32+5)}, 30, 0}, {[]api.ID{id(3, -5)}, 30, 0}, {[]api.ID{id(5, 3)}, 30, 0},
		{[]api.ID{id(6, 1)}, end - 1, end}, {[]api.ID{id(6, 1)}, end, 0}, {[]api.ID{id(6, 1)}, end + 1, 0}, {[]api.ID{id(6, 1), own}, 30, end}, {[]api.ID{id(6, 1), held}, 30, 66}, {[]api.ID{held, id(6, 1)}, 30, 66},
	} {
		want, e := x.want, api.OK
		if want == 0 {
			e = api.ErrNone
		}
		for range 2 {
			if n, got := b.Until(x.ids, x.now); n != want || got != e {
				t.Errorf("%d: Until(%v, %d) = %d, %v, want %d, %v", i, x.ids, x.now, n, got, want, e)
			}
		}
	}
}

// P13.2: Until of all lists of up to three IDs, of five, at ticks about all ends.
func TestUntilAllShort(t *testing.T) {
	b, m := made(t, 2, learn(3, members(3, 5), 10), learn(4, members(4, 5), 12), learn(1, members(1, 5), 11))
	some := []api.ID{id(1, 5), id(2, 5), id(3, 5), id(4, 5), id(5, 5)}
	count := 0
	var grow func(ids []api.ID)
	grow = func(ids []api.ID) {
		for now := 64; now < 70; now++ {
			n, e := b.Until(ids, now)
			if want, wrong := m.until(ids, m.held(now)); n != want || e != wrong {
				t.Fatalf("Until(%v, %d) = %d, %v, want %d, %v", ids, now, n, e, want, wrong)
			}
			count++
		}
		for _, x := range some {
			if len(ids) < 3 {
				grow(append(ids[:len(ids):len(ids)], x))
			}
		}
	}
	grow(nil)
	if count != 6*(1+5+25+125) {
		t.Error(count)
	}
}

// P13.3: Fresh at the last fresh tick and behind it, by each tick at which may be asked, by Hear and by Learn.
func TestFreshAtEnds(t *testing.T) {
	for _, x := range []struct {
		asked, until int
	}{
		{0, 48}, {1, 49}, {10, 58}, {1 << 20, 1<<20 + 48}, {1 << 32, 1<<32 + 48},
		{end - 50, end - 2}, {end - 49, end - 1}, {end - 48, end}, {end - 47, end}, {end - 2, end}, {end - 1, end}, {end, end},
	} {
		for _, s := range []said{hear(3, x.asked), learn(3, nil, x.asked), learn(3, members(3, 1), x.asked)} {
			b, _ := made(t, 2, s)
			for _, now := range append(numbers(), x.asked-1, x.asked, x.asked+1, x.until-2, x.until-1, x.until, x.until+1) {
				want := now < x.until && now < end
				if got := b.Fresh(3, now); got != want {
					t.Errorf("asked at %d: Fresh(3, %d) = %v", x.asked, now, got)
				}
				if got := b.Stale([]api.ID{id(2, 1), id(3, 1)}, now); got != !want {
					t.Errorf("asked at %d: Stale at %d = %v", x.asked, now, got)
				}
			}
		}
	}
}

// P13.3: Fresh of each domain and of what is none, of own among them, at each tick and at what is none.
func TestFresh(t *testing.T) {
	for own := 1; own <= domains; own++ {
		for d := 1; d <= domains; d++ {
			for _, asked := range []int{0, 10, end - 10} {
				b, m := lease.New(own), model{own: own}
				m = try(t, b, m, hear(d, asked))
				for _, now := range append(numbers(), 57, 58) {
					for _, x := range places() {
						want := x == own || x == d && now < asked+48 && now < end
						if got := b.Fresh(x, now); got != want || m.fresh(x, now) != want {
							t.Fatalf("domain %d heard by %d at %d: Fresh(%d, %d) = %v", d, own, asked, x, now, got)
						}
						if got := b.Stale([]api.ID{id(x, 1)}, now); got == want {
							t.Fatalf("domain %d heard by %d at %d: Stale of %d at %d = %v", d, own, asked, x, now, got)
						}
					}
				}
			}
		}
	}
}

// P13.3: Stale of IDs of which none, one, and all are of a domain that isn't fresh. The Seqs don't count, and nothing need be held.
func TestStaleExamples(t *testing.T) {
	b, _ := made(t, 2, hear(1, 30), learn(3, members(3, 7), 10), learn(4, members(4, 7), 0))
	own, late, mid, early := id(2, 1), id(1, 1), id(3, 7), id(4, 9)
	for i, x := range []struct {
		ids  []api.ID
		now  int
		want bool
	}{
		{nil, 0, false}, {nil, end, false}, {nil, math.MaxInt, false}, {[]api.ID{}, math.MinInt, false},
		{[]api.ID{own}, 0, false}, {[]api.ID{own, own}, end, false}, {[]api.ID{id(2, -4)}, math.MaxInt, false}, {[]api.ID{own}, math.MinInt, false},
		{[]api.ID{early}, 47, false}, {[]api.ID{early}, 48, true}, {[]api.ID{mid}, 57, false}, {[]api.ID{mid}, 58, true}, {[]api.ID{late}, 77, false}, {[]api.ID{late}, 78, true},
		{[]api.ID{own, late, mid, early}, 47, false}, {[]api.ID{own, late, mid, early}, 48, true}, {[]api.ID{early, mid, late}, 48, true}, {[]api.ID{late, mid}, 48, false}, {[]api.ID{late, early, mid}, 48, true}, {[]api.ID{mid, mid, own}, 57, false}, {[]api.ID{own, mid, mid}, 58, true}, {[]api.ID{mid, own, late}, 58, true}, {[]api.ID{late, own, mid}, 58, true}, {[]api.ID{late, own}, 58, false},
		{[]api.ID{id(1, 0), id(3, math.MaxInt), id(4, math.MinInt)}, 20, false}, {[]api.ID{id(1, 4001)}, math.MinInt, false}, {[]api.ID{late}, math.MaxInt, true}, {[]api.ID{late}, end, true}, {[]api.ID{late}, -1, false},
		{[]api.ID{id(5, 1)}, 0, true}, {[]api.ID{id(16, 1)}, 0, true}, {[]api.ID{late, id(5, 1)}, 30, true}, {[]api.ID{id(5, 1), late}, 30, true}, {[]api.ID{{}}, 30, true}, {[]api.ID{id(0, 7)}, 30, true}, {[]api.ID{id(17, 7)}, 30, true}, {[]api.ID{own, id(17, 7)}, 30, true}, {[]api.ID{id(-1, 7)}, 30, true}, {[]api.ID{id(math.MinInt, 7)}, 30, true}, {[]api.ID{id(math.MaxInt, 7)}, 30, true}, {[]api.ID{id(1<<32+1, 7)}, 30, true}, {[]api.ID{id(1<<32+2, 7)}, 30, true},
	} {
		if got := b.Stale(x.ids, x.now); got != x.want {
			t.Errorf("%d: Stale(%v, %d) = %v", i, x.ids, x.now, got)
		}
	}
}

// P13.2, P13.3: to be fresh and to be held are two things: one that has answered nothing is fresh, and what is held of one that isn't fresh any more is held on.
func TestFreshAndHeld(t *testing.T) {
	b, _ := made(t, 1, learn(2, members(2, 1), 10), learn(3, nil, 10), hear(4, 10))
	for now := 56; now < 70; now++ {
		for _, d := range []int{2, 3, 4} {
			if got := b.Fresh(d, now); got != (now < 58) {
				t.Errorf("Fresh(%d, %d) = %v", d, now, got)
			}
		}
		if got := b.Held(now); len(got) > 1 || (len(got) == 1) != (now < 66) {
			t.Errorf("Held(%d) = %v", now, got)
		}
	}
	for _, d := range []int{3, 4} {
		if n, e := b.Until([]api.ID{id(d, 1)}, 10); n != 0 || e != api.ErrNone {
			t.Errorf("Until of domain %d = %d, %v", d, n, e)
		}
	}
}
