package ticks_test

import (
	"math"
	"math/big"
	"math/rand"
	"slices"
	"sync"
	"testing"

	"livery/api"
	"livery/ticks"
)

const end = 1 << 40 // MaxTick

// numbers are in ascending order: such as are no ticks and such as are, about the ends of all ranges.
func numbers() []int {
	l := []int{math.MinInt, math.MinInt + 1, math.MinInt / 8, math.MinInt/8 - 1, -1 << 62, math.MaxInt, math.MaxInt - 1, math.MaxInt / 2, math.MaxInt/8 + 1, math.MaxInt / 8, 1 << 62}
	for _, n := range []int{0, 8, 16, 40, 48, 56, 64, 72, 1 << 16, 1 << 31, 1 << 32, end / 8, end / 7, end / 2, end - 64, end, end + 64, end / 7 * 8, 2 * end, 8 * end} {
		for d := -2; d <= 2; d++ {
			l = append(l, n+d, -n+d)
		}
	}
	slices.Sort(l)
	return slices.Compact(l)
}

// random calls try with numbers of all sizes, always the same ones.
func random(try func(r *rand.Rand, number func() int)) {
	r := rand.New(rand.NewSource(9))
	number := func() int { return int(r.Uint64()) >> r.Intn(64) }
	for range 20000 {
		try(r, number)
	}
}

// clock returns the tick as which n counts.
func clock(n int) int {
	switch {
	case n < 0:
		return 0
	case n > end:
		return end
	}
	return n
}

// sum is what P9.1 says of Add, in numbers of any size.
func sum(at, n int) int {
	s := new(big.Int).Add(big.NewInt(int64(clock(at))), big.NewInt(int64(clock(n))))
	if s.Cmp(big.NewInt(end)) > 0 {
		return end
	}
	return int(s.Int64())
}

// over is what P9.1 says of Over.
func over(now, until int) bool {
	return !(clock(now) < clock(until)) || clock(now) == end
}

// nearest returns the number from least to greatest that is nearest to n, by trying all of them.
func nearest(n, least, greatest int) int {
	found, away := 0, new(big.Int)
	for k := least; k <= greatest; k++ {
		d := new(big.Int).Sub(big.NewInt(int64(n)), big.NewInt(int64(k)))
		if d.Abs(d); k == least || d.Cmp(away) < 0 {
			found, away = k, d
		}
	}
	return found
}

// goes is what P9.2 says of Goes.
func goes(n, skew int) int {
	n = nearest(n, 0, 64)
	most := int(math.Floor(float64(n) / 8))
	return n + nearest(skew, -most, most)
}

// bounds reports whether x is what P9.3 says of Bound(n): the least integer that is not less than n * 8 / 7.
func bounds(x, n int) bool {
	quotient := big.NewRat(8*int64(clock(n)), 7)
	return big.NewRat(int64(x), 1).Cmp(quotient) >= 0 && big.NewRat(int64(x)-1, 1).Cmp(quotient) < 0
}

// The chapter's numbers are those of api.
func TestLimits(t *testing.T) {
	if api.MaxTick != end || api.MaxPass != 64 || api.Drift != 8 || ticks.Bound(api.Lease) != api.Bound {
		t.Error(api.MaxTick, api.MaxPass, api.Drift, ticks.Bound(api.Lease))
	}
}

// P9.1: the chapter's examples of Add, and sums about the ends.
func TestAddExamples(t *testing.T) {
	for _, x := range []struct{ at, n, want int }{
		{-5, 4, 4}, {end - 1, 5, end}, // the chapter's own
		{0, 0, 0}, {0, 7, 7}, {7, 0, 7}, {10, 56, 66}, {3, 4, 7}, {4, -5, 4}, {-1, -1, 0}, {-5, -4, 0},
		{end, 0, end}, {0, end, end}, {end, 1, end}, {end, end, end}, {end - 1, 0, end - 1}, {end - 1, 1, end}, {end - 2, 1, end - 1}, {1, end - 2, end - 1},
		{end / 2, end / 2, end}, {end / 2, end/2 - 1, end - 1}, {end + 1, 0, end}, {end + 1, -1, end}, {end, -1, end}, {-1, end + 1, end}, {end + 5, -7, end},
		{math.MaxInt, math.MaxInt, end}, {math.MaxInt, 1, end}, {1, math.MaxInt, end}, {math.MaxInt, 0, end}, {math.MaxInt, math.MinInt, end}, {math.MinInt, math.MaxInt, end},
		{math.MinInt, math.MinInt, 0}, {math.MinInt, 0, 0}, {math.MinInt, -1, 0}, {-1, math.MinInt, 0}, {math.MinInt, 9, 9}, {9, math.MinInt, 9},
		{1 << 62, 1 << 62, end}, {-1 << 62, -1 << 62, 0}, {1 << 41, 1 << 41, end},
	} {
		if got := ticks.Add(x.at, x.n); got != x.want {
			t.Errorf("Add(%d, %d) = %d, want %d", x.at, x.n, got, x.want)
		}
	}
}

// P9.1: sums of all odd numbers and of random ones, against the chapter's words in numbers of any size.
func TestAdd(t *testing.T) {
	check := func(at, n int) {
		if got, want := ticks.Add(at, n), sum(at, n); got != want {
			t.Errorf("Add(%d, %d) = %d, want %d", at, n, got, want)
		}
	}
	for _, at := range numbers() {
		for _, n := range numbers() {
			check(at, n)
		}
	}
	random(func(_ *rand.Rand, number func() int) { check(number(), number()) })
}

// P9.1: the chapter's examples of Over, and pairs about the ends.
func TestOverExamples(t *testing.T) {
	for _, x := range []struct {
		now, until int
		want       bool
	}{
		{2, 3, false}, {end, 1 << 62, true}, {3, 3, true}, // the chapter's own
		{4, 3, true}, {0, 0, true}, {0, 1, false}, {1, 0, true}, {29, 30, false}, {30, 30, true}, {65, 66, false}, {66, 66, true},
		{-5, 0, true}, {-5, -4, true}, {-4, -5, true}, {-5, 1, false}, {-1, 1, false}, {0, -1, true}, {1, -1, true}, {math.MinInt, 0, true}, {math.MinInt, 1, false}, {math.MinInt, math.MinInt, true}, {0, math.MinInt, true},
		{end - 1, end, false}, {end - 1, end - 1, true}, {end - 2, end - 1, false}, {end - 1, end + 1, false}, {end - 1, math.MaxInt, false},
		{end, end, true}, {end, end + 1, true}, {end, math.MaxInt, true}, {end + 1, end + 2, true}, {end + 5, math.MaxInt, true}, {math.MaxInt, math.MaxInt, true}, {math.MaxInt, end, true}, {math.MaxInt, 0, true},
		{0, end, false}, {0, math.MaxInt, false}, {math.MinInt, math.MaxInt, false}, {math.MaxInt, math.MinInt, true},
	} {
		if got := ticks.Over(x.now, x.until); got != x.want {
			t.Errorf("Over(%d, %d) = %v", x.now, x.until, got)
		}
	}
}

// P9.1: Over of all odd numbers and of random ones, against the chapter's words.
func TestOver(t *testing.T) {
	check := func(now, until int) {
		if got, want := ticks.Over(now, until), over(now, until); got != want {
			t.Errorf("Over(%d, %d) = %v", now, until, got)
		}
	}
	for _, now := range numbers() {
		for _, until := range numbers() {
			check(now, until)
		}
	}
	random(func(r *rand.Rand, number func() int) {
		n := number()
		check(n, number())
		check(n, n)
		check(n, int(uint(n)+uint(r.Intn(3))-1))
	})
}

// P9.1: the least of no numbers, of one and of several, among them such as count as a tick only by being limited.
func TestLeastExamples(t *testing.T) {
	for _, x := range []struct {
		l    []int
		want int
	}{
		{nil, end}, {[]int{}, end}, {make([]int, 0, 9), end},
		{[]int{0}, 0}, {[]int{7}, 7}, {[]int{-1}, 0}, {[]int{end}, end}, {[]int{end - 1}, end - 1}, {[]int{end + 1}, end}, {[]int{math.MaxInt}, end}, {[]int{math.MinInt}, 0},
		{[]int{5, 9}, 5}, {[]int{9, 5}, 5}, {[]int{9, 5, 7}, 5}, {[]int{5, 5, 5}, 5}, {[]int{9, 0, 7}, 0}, {[]int{1, 2, 3, 4}, 1}, {[]int{4, 3, 2, 1}, 1},
		{[]int{5, -3, 9}, 0}, {[]int{-3, 5}, 0}, {[]int{-3, -5}, 0}, {[]int{-5, -3}, 0}, {[]int{0, -1}, 0}, {[]int{1, math.MinInt}, 0},
		{[]int{end + 1, end + 2}, end}, {[]int{math.MaxInt, end + 1}, end}, {[]int{math.MaxInt, end - 1}, end - 1}, {[]int{end - 1, end + 1}, end - 1}, {[]int{math.MaxInt, 8, end}, 8},
		{[]int{math.MaxInt, math.MinInt}, 0}, {[]int{math.MinInt, math.MaxInt}, 0},
	} {
		if got := ticks.Least(x.l); got != x.want {
			t.Errorf("Least(%d) = %d, want %d", x.l, got, x.want)
		}
	}
}

// P9.1: the least of random numbers is at least one of them, and no one is less; wherever it stands.
func TestLeast(t *testing.T) {
	random(func(r *rand.Rand, number func() int) {
		l := make([]int, 1+r.Intn(12))
		for i := range l {
			if l[i] = number(); r.Intn(2) == 0 {
				l[i] = clock(l[i])
			}
		}
		got, found := ticks.Least(l), false
		for _, n := range l {
			found = found || clock(n) == got
			if clock(n) < got {
				t.Fatalf("Least(%d) = %d", l, got)
			}
		}
		if !found {
			t.Fatalf("Least(%d) = %d", l, got)
		}
	})
	for place := range 50 {
		l := slices.Repeat([]int{80}, 50)
		l[place] = 79
		if got := ticks.Least(l); got != 79 {
			t.Error(place, got)
		}
	}
}

// P9.2: the chapter's examples, and pairs about the ends.
func TestGoesExamples(t *testing.T) {
	for _, x := range []struct{ n, skew, want int }{
		{100, 100, 72}, {16, 9, 18}, {16, -1, 15}, {7, -5, 7}, // the chapter's own
		{0, 0, 0}, {0, 1, 0}, {0, -1, 0}, {1, 1, 1}, {1, -1, 1}, {7, 1, 7}, {7, -1, 7}, {8, 0, 8}, {8, 1, 9}, {8, 2, 9}, {8, -1, 7}, {8, -2, 7}, {9, 2, 10}, {15, 2, 16}, {15, -2, 14}, {16, 2, 18}, {16, -2, 14}, {16, -9, 14}, {16, 0, 16}, {16, 1, 17},
		{63, 8, 70}, {63, -8, 56}, {63, 7, 70}, {63, -7, 56}, {63, 6, 69}, {64, 7, 71}, {64, 8, 72}, {64, 9, 72}, {64, -7, 57}, {64, -8, 56}, {64, -9, 56}, {65, 0, 64}, {65, 1, 65}, {65, 8, 72}, {65, 9, 72}, {65, -9, 56}, {72, 9, 72}, {72, 0, 64}, {100, -100, 56},
		{-4, 3, 0}, {-1, 0, 0}, {-8, 1, 0}, {-8, -1, 0}, {-64, -8, 0}, {-64, 8, 0}, {-100, 100, 0},
		{64, math.MinInt, 56}, {64, math.MaxInt, 72}, {math.MaxInt, math.MaxInt, 72}, {math.MaxInt, math.MinInt, 56}, {math.MaxInt, 0, 64}, {math.MinInt, math.MinInt, 0}, {math.MinInt, math.MaxInt, 0}, {math.MinInt, 0, 0}, {0, math.MaxInt, 0}, {0, math.MinInt, 0}, {end, 3, 67},
	} {
		if got := ticks.Goes(x.n, x.skew); got != x.want {
			t.Errorf("Goes(%d, %d) = %d, want %d", x.n, x.skew, got, x.want)
		}
	}
}

// P9.2: every portion and some that are none, with every skew from -9 to 9 and far beyond.
func TestGoes(t *testing.T) {
	check := func(n, skew int) {
		if got, want := ticks.Goes(n, skew), goes(n, skew); got != want {
			t.Errorf("Goes(%d, %d) = %d, want %d", n, skew, got, want)
		}
	}
	for n := -9; n <= 64+9; n++ {
		for skew := -80; skew <= 80; skew++ {
			check(n, skew)
		}
		for _, skew := range numbers() {
			check(n, skew)
		}
	}
	for _, n := range numbers() {
		for skew := -9; skew <= 9; skew++ {
			check(n, skew)
		}
	}
	for _, n := range []int{math.MinInt, -end, end, math.MaxInt} {
		for _, skew := range numbers() {
			check(n, skew)
		}
	}
}

// P9.3: the chapter's examples, and the numbers about the ends.
func TestBoundExamples(t *testing.T) {
	for _, x := range []struct{ n, want int }{
		{7, 8}, {8, 10}, {56, 64}, {1, 2}, // the chapter's own
		{0, 0}, {2, 3}, {3, 4}, {4, 5}, {5, 6}, {6, 7}, {9, 11}, {13, 15}, {14, 16}, {15, 18}, {48, 55}, {49, 56}, {55, 63}, {57, 66}, {40, 46},
		{-1, 0}, {-3, 0}, {-7, 0}, {-8, 0}, {math.MinInt, 0}, {math.MinInt + 1, 0}, {math.MinInt / 8, 0},
		{end - 1, 1256584717458}, {end, 1256584717459}, {end + 1, 1256584717459}, {end + 7, 1256584717459}, {8 * end, 1256584717459}, {1 << 62, 1256584717459}, {math.MaxInt / 8, 1256584717459}, {math.MaxInt/8 + 1, 1256584717459}, {math.MaxInt, 1256584717459},
	} {
		if got := ticks.Bound(x.n); got != x.want {
			t.Errorf("Bound(%d) = %d, want %d", x.n, got, x.want)
		}
	}
}

// P9.3: many numbers, against the chapter's words.
func TestBound(t *testing.T) {
	check := func(n int) {
		if got := ticks.Bound(n); !bounds(got, n) {
			t.Errorf("Bound(%d) = %d", n, got)
		}
	}
	for n := -100; n < 20000; n++ {
		check(n)
	}
	for n := end - 10000; n < end+100; n++ {
		check(n)
	}
	for _, n := range numbers() {
		check(n)
	}
	random(func(_ *rand.Rand, number func() int) { check(number()) })
}

// slowest returns the skew, of many, with which a clock advances least while n units of time pass.
func slowest(n int) int {
	worst := 0
	for _, skew := range []int{math.MinInt, -end, -100, -9, -8, -7, -6, -5, -4, -3, -2, -1, 0, 1, 9, 100, end, math.MaxInt} {
		if ticks.Goes(n, skew) < ticks.Goes(n, worst) {
			worst = skew
		}
	}
	return worst
}

// P9.4: of all portions of which a time may consist, those with which a clock advances least.
func TestSlowestPortions(t *testing.T) {
	const most = 6000
	var part [65]int
	for p := 1; p <= 64; p++ {
		part[p] = ticks.Goes(p, slowest(p))
	}
	least := make([]int, most+1) // by how much the slowest clock advances in such a time
	n := 0
	for total := 1; total <= most; total++ {
		least[total] = math.MaxInt
		for p := 1; p <= min(total, 64); p++ {
			least[total] = min(least[total], least[total-p]+part[p])
		}
		for ticks.Bound(n+1) <= total {
			n++
		}
		if least[total] < n {
			t.Fatalf("in %d of time a clock may advance by %d only, but Bound(%d) is %d", total, least[total], n, ticks.Bound(n))
		}
	}
	if n < most*7/8-1 {
		t.Errorf("in %d of time no more than %d is sure", most, n)
	}
}

// P9.4: portions of one size each, and such as are no portions, with each skew, up to the bound.
func TestEqualPortions(t *testing.T) {
	for _, n := range []int{0, 1, 2, 6, 7, 8, 9, 40, 48, 55, 56, 57, 64, 100, 1000} {
		for p := 1; p <= 70; p++ {
			for skew := -9; skew <= 9; skew++ {
				total, now := 0, 5
				for total < ticks.Bound(n) {
					total += min(p, 64)
					now = ticks.Add(now, ticks.Goes(p, skew))
				}
				if now < 5+n {
					t.Fatalf("%d in portions of %d with the skew %d: a clock has advanced by %d, not by %d", total, p, skew, now-5, n)
				}
			}
		}
	}
}

// P9.4: random portions, also of no time and below it, with random and with the slowest skews, up to the bound.
func TestRandomPortions(t *testing.T) {
	r := rand.New(rand.NewSource(94))
	for turn := range 4000 {
		n, size := r.Intn(2000), 1+r.Intn(70)
		total, now := 0, 0
		for total < ticks.Bound(n) {
			p := r.Intn(size+3) - 2
			skew := math.MinInt
			if turn%3 == 0 {
				skew = r.Intn(19) - 9
			}
			total += min(max(p, 0), 64)
			now = ticks.Add(now, ticks.Goes(p, skew))
		}
		if !ticks.Over(now, n) {
			t.Fatalf("in %d of time a clock has advanced by %d, not by %d", total, now, n)
		}
	}
}

// P9.4: times that are too long to be passed through: so many equal portions, and a last one that reaches the bound.
func TestLongTimes(t *testing.T) {
	check := func(n, p int) {
		times := ticks.Bound(n) / p
		rest := ticks.Bound(n) - times*p
		if now := times*ticks.Goes(p, -9) + ticks.Goes(rest, -9); now < n {
			t.Fatalf("in %d of time, in portions of %d, a clock has advanced by %d, not by %d", ticks.Bound(n), p, now, n)
		}
	}
	for p := 1; p <= 64; p++ {
		for n := end - 500; n <= end; n++ {
			check(n, p)
		}
	}
	random(func(r *rand.Rand, number func() int) { check(clock(number()), 1+r.Intn(64)) })
}

// P9.5: what is over remains over for every later now; and whatever is over has all earlier untils over.
func TestRemainsOver(t *testing.T) {
	l := numbers()
	for i := -3; i < 80; i++ {
		l = append(l, i)
	}
	slices.Sort(l)
	for _, fixed := range l {
		for i := range l[1:] {
			if ticks.Over(l[i], fixed) && !ticks.Over(l[i+1], fixed) {
				t.Errorf("until %d: over at %d, not over at %d", fixed, l[i], l[i+1])
			}
			if ticks.Over(fixed, l[i+1]) && !ticks.Over(fixed, l[i]) {
				t.Errorf("at %d: until %d is over, until %d is not", fixed, l[i+1], l[i])
			}
		}
	}
}

// P9.5: a clock that goes on in random portions never sees again what was over, and sees untils end in their order.
func TestClockGoesOn(t *testing.T) {
	r := rand.New(rand.NewSource(95))
	for _, start := range []int{0, 1000, end - 300, end - 2000} {
		ended, now := false, start
		until := start + 250
		for range 200 {
			later := ticks.Add(now, ticks.Goes(r.Intn(80)-5, r.Intn(25)-12))
			if later < now {
				t.Fatalf("a clock went back from %d to %d", now, later)
			}
			now = later
			over := ticks.Over(now, until)
			if ended && !over || over != (now >= until) || ticks.Over(now, until+40) && !over {
				t.Fatalf("until %d, at %d: %v", until, now, over)
			}
			ended = over
		}
		if !ended {
			t.Errorf("from %d on, until %d never ended", start, until)
		}
	}
}

// P9.6: at the end of the clock everything is over, the clock stays there, and just ahead of it not everything is over.
func TestEndOfClock(t *testing.T) {
	for _, now := range []int{end, end + 1, end + 64, 1 << 62, math.MaxInt} {
		for _, until := range numbers() {
			if !ticks.Over(now, until) {
				t.Errorf("until %d is not over at %d", until, now)
			}
		}
		for p := range 65 {
			if got := ticks.Add(now, ticks.Goes(p, p-9)); got != end {
				t.Errorf("a clock went on from %d to %d", now, got)
			}
		}
	}
	now := end - 1000
	for range 100 {
		if now < end && ticks.Over(now, math.MaxInt) {
			t.Errorf("all is over at %d", now)
		}
		now = ticks.Add(now, ticks.Goes(16, -2))
	}
	if now != end || !ticks.Over(now, ticks.Add(now, 56)) {
		t.Error(now)
	}
}

// R1: no call panics, and none leaves its range, whatever it is given; also with a long list.
func TestExtremes(t *testing.T) {
	l := numbers()
	for _, a := range l {
		for _, b := range l {
			ticks.Over(a, b)
			if got := ticks.Add(a, b); got < 0 || got > end {
				t.Errorf("Add(%d, %d) = %d", a, b, got)
			}
			if got := ticks.Goes(a, b); got < 0 || got > 72 {
				t.Errorf("Goes(%d, %d) = %d", a, b, got)
			}
			if got := ticks.Least([]int{a, b}); got != min(clock(a), clock(b)) {
				t.Errorf("Least(%d, %d) = %d", a, b, got)
			}
		}
		if got := ticks.Bound(a); got < 0 || got > ticks.Bound(end) {
			t.Errorf("Bound(%d) = %d", a, got)
		}
	}
	long := slices.Repeat([]int{end - 3, math.MaxInt, end - 2}, 1<<20)
	if got := ticks.Least(long); got != end-3 {
		t.Error(got)
	}
}

// R4: nil and empty lists are equivalent; a list is not changed, also not behind its end, and not kept.
func TestMemory(t *testing.T) {
	if ticks.Least(nil) != ticks.Least([]int{}) {
		t.Error(ticks.Least(nil), ticks.Least([]int{}))
	}
	random(func(r *rand.Rand, number func() int) {
		room := make([]int, 12)
		for i := range room {
			room[i] = number()
		}
		before := slices.Clone(room)
		part := room[r.Intn(4) : 4+r.Intn(9)]
		got := ticks.Least(part)
		if !slices.Equal(room, before) {
			t.Fatal("the list was changed:", before, room)
		}
		if again := ticks.Least(slices.Clone(part)); again != got {
			t.Fatal("the numbers behind the end, or an address, count:", part, got, again)
		}
		clear(part)
		if len(part) > 0 && ticks.Least(part) != 0 {
			t.Fatal("a list was kept:", before)
		}
	})
}

// answers are those of many calls.
func answers() []int {
	var all []int
	l := numbers()
	for i, a := range l {
		all = append(all, ticks.Bound(a), ticks.Least(l[i:]), ticks.Least(l[:i]))
		for _, b := range l {
			all = append(all, ticks.Add(a, b), ticks.Goes(a, b))
			if ticks.Over(a, b) {
				all = append(all, 1)
			}
		}
	}
	return all
}

// R5: the same calls answer the same each time, from whichever goroutine.
func TestAgain(t *testing.T) {
	want := answers()
	var group sync.WaitGroup
	for range 8 {
		group.Go(func() {
			for range 3 {
				if !slices.Equal(answers(), want) {
					t.Error("other answers")
				}
			}
		})
	}
	group.Wait()
}
