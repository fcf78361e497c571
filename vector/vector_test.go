package vector_test

import (
	"bytes"
	"math"
	"math/rand"
	"slices"
	"sync"
	"testing"

	"livery/api"
	"livery/vector"
	"livery/wire"
)

const (
	domains  = 16      // MaxDomains
	greatest = 1 << 40 // MaxNumber
)

// numbers are such as a vector may have, and such as it may not, about the ends.
func numbers() []int {
	return []int{
		math.MinInt, math.MinInt + 1, -greatest - 1, -greatest, -1 << 32, -2, -1,
		0, 1, 2, 255, 256, 1<<16 - 1, 1 << 31, 1 << 32, greatest - 2, greatest - 1, greatest,
		greatest + 1, greatest + 2, 2 * greatest, 1 << 50, 1 << 62, math.MaxInt - 1, math.MaxInt,
	}
}

// places are numbers of domains, and such as are none.
func places() []int {
	l := []int{math.MinInt, math.MinInt + 1, -1 << 32, -17, -16, -2, -1, 1<<32 + 1, 1<<32 + 16, 1 << 62, math.MaxInt - 1, math.MaxInt}
	for d := 0; d <= 40; d++ {
		l = append(l, d)
	}
	return l
}

// nearest is the number from 0 to MaxNumber that is nearest to n.
func nearest(n int) int {
	switch {
	case n < 0:
		return 0
	case n > greatest:
		return greatest
	}
	return n
}

// states is the number that a list states for a domain, as the chapter's section 'Words' has it.
func states(v []int, domain int) int {
	for i, n := range v {
		if i < domains && i+1 == domain {
			return nearest(n)
		}
	}
	return 0
}

// isVector reports whether v is a normalized vector, as the chapter's section 'Words' has it.
func isVector(v []int) bool {
	for _, n := range v {
		if n < 0 || n > greatest {
			return false
		}
	}
	return len(v) <= domains && (len(v) == 0 || v[len(v)-1] != 0)
}

// check tells if got is no normalized vector, or does not state for each domain what want returns.
func check(t *testing.T, call string, got []int, want func(domain int) int) {
	t.Helper()
	if !isVector(got) {
		t.Fatalf("%s = %d, which is not a normalized vector", call, got)
	}
	for d := 1; d <= domains; d++ {
		if states(got, d) != want(d) {
			t.Fatalf("%s = %d, which states %d for domain %d, not %d", call, got, states(got, d), d, want(d))
		}
	}
}

// lists are of all lengths that matter, normalized and not, vectors and not.
func lists() [][]int {
	all := [][]int{
		nil, {}, make([]int, 0, 20), {1}, {0}, {-1}, {1, 0}, {1, -1}, {0, 0, 0}, {0, 1}, {0, 0, 7}, {5, 0, 0, 9, 0, 0}, {1, 2, 3}, {3, 2, 1},
		{greatest}, {greatest - 1}, {greatest + 1}, {0, greatest + 1}, {greatest + 1, 0}, {math.MaxInt, math.MinInt}, {math.MinInt, math.MaxInt}, {-1, -1, 4}, {4, -1, -1},
	}
	for _, size := range []int{1, 2, 15, 16, 17, 18, 33, 1000} {
		filled := slices.Repeat([]int{7}, size)
		zeros := make([]int, size)
		for _, n := range numbers() {
			all = append(all, with(filled, 0, n), with(filled, size/2, n), with(filled, size-1, n), with(zeros, 0, n), with(zeros, size/2, n), with(zeros, size-1, n))
		}
		all = append(all, rising(size), slices.Repeat([]int{greatest}, size), slices.Repeat([]int{greatest + 1}, size), slices.Repeat([]int{-1}, size))
	}
	ended := slices.Concat(rising(12), make([]int, 4)) // only what follows the sixteenth is not 0 at the end
	return append(all, ended, slices.Concat(ended, []int{8}), slices.Concat(ended, []int{0, 0, 8}), slices.Concat(make([]int, 16), []int{9}), slices.Concat(rising(16), []int{0}), slices.Concat(rising(16), []int{-5}), slices.Concat(rising(16), make([]int, 300)))
}

// with returns a copy of l that has n at a place.
func with(l []int, place, n int) []int {
	c := slices.Clone(l)
	c[place] = n
	return c
}

// rising is 1, 2, 3 and so on.
func rising(size int) []int {
	l := make([]int, size)
	for i := range l {
		l[i] = i + 1
	}
	return l
}

// random calls try with lists of all lengths and numbers of all sizes, always the same ones.
func random(try func(r *rand.Rand, list func() []int)) {
	r := rand.New(rand.NewSource(10))
	all := numbers()
	list := func() []int {
		l := make([]int, r.Intn(20))
		for i := range l {
			switch r.Intn(4) {
			case 0:
				l[i] = all[r.Intn(len(all))]
			case 1:
				l[i] = int(r.Uint64()) >> r.Intn(64)
			default:
				l[i] = r.Intn(4)
			}
		}
		return l
	}
	for range 20000 {
		try(r, list)
	}
}

// small are all vectors and lists of three numbers from -1 to 2, and some shorter ones.
func small() [][]int {
	var all [][]int
	for a := -1; a <= 2; a++ {
		all = append(all, []int{a})
		for b := -1; b <= 2; b++ {
			all = append(all, []int{a, b})
			for c := -1; c <= 2; c++ {
				all = append(all, []int{a, b, c})
			}
		}
	}
	return append(all, nil)
}

// The chapter's numbers are those of api.
func TestLimits(t *testing.T) {
	if api.MaxDomains != domains || api.MaxNumber != greatest {
		t.Error(api.MaxDomains, api.MaxNumber)
	}
}

// P10.1: the chapter's examples of May, and lists about the ends.
func TestMayExamples(t *testing.T) {
	for _, x := range []struct {
		v    []int
		want bool
	}{
		{[]int{0}, false}, {[]int{-1}, false}, {[]int{greatest + 1}, false}, // the chapter's own
		{nil, true}, {[]int{}, true}, {[]int{1}, true}, {[]int{greatest}, true}, {[]int{greatest - 1}, true}, {[]int{math.MaxInt}, false}, {[]int{math.MinInt}, false},
		{[]int{1, 0}, false}, {[]int{0, 1}, true}, {[]int{0, 0}, false}, {[]int{0, 0, 0, 0, 9}, true}, {[]int{1, 2, 0, 0}, false}, {[]int{1, -1, 1}, false}, {[]int{1, greatest + 1, 1}, false}, {[]int{1, greatest, 1}, true},
		{[]int{math.MinInt, 1}, false}, {[]int{1, math.MinInt}, false}, {[]int{math.MaxInt, 1}, false}, {[]int{1, math.MaxInt}, false},
		{rising(15), true}, {rising(16), true}, {rising(17), false}, {rising(1000), false}, {make([]int, 15), false}, {make([]int, 16), false}, {make([]int, 17), false},
		{slices.Repeat([]int{greatest}, 16), true}, {slices.Repeat([]int{greatest}, 17), false}, {with(rising(16), 15, 0), false}, {with(rising(16), 15, -1), false}, {with(rising(16), 15, greatest+1), false}, {with(rising(16), 7, 0), true}, {with(rising(16), 7, -1), false},
		{with(make([]int, 16), 15, 1), true}, {with(make([]int, 17), 16, 1), false}, {with(rising(17), 16, 0), false}, {with(rising(17), 16, -1), false},
	} {
		if got := vector.May(x.v); got != x.want {
			t.Errorf("May(%d) = %v", x.v, got)
		}
	}
}

// P10.1: lists that are normalized vectors and that are not, against the chapter's words.
func TestMay(t *testing.T) {
	try := func(v []int) {
		if got := vector.May(v); got != isVector(v) {
			t.Fatalf("May(%d) = %v", v, got)
		}
	}
	for _, v := range slices.Concat(lists(), small()) {
		try(v)
	}
	random(func(_ *rand.Rand, list func() []int) {
		v := list()
		try(v)
		try(vector.Bare(v))
	})
}

// P10.1: vectors that Bare returns, written out.
func TestBareExamples(t *testing.T) {
	for _, x := range []struct{ v, want []int }{
		{nil, nil}, {[]int{}, nil}, {[]int{0}, nil}, {[]int{-3}, nil}, {[]int{math.MinInt}, nil}, {[]int{0, 0, -1, 0}, nil}, {make([]int, 100), nil},
		{[]int{1}, []int{1}}, {[]int{1, 0}, []int{1}}, {[]int{1, -1}, []int{1}}, {[]int{0, 1, 0}, []int{0, 1}}, {[]int{-4, 1, -4, 0}, []int{0, 1}}, {[]int{1, 0, 3}, []int{1, 0, 3}},
		{[]int{greatest}, []int{greatest}}, {[]int{greatest + 1}, []int{greatest}}, {[]int{math.MaxInt, math.MinInt, 2, math.MinInt}, []int{greatest, 0, 2}},
		{rising(15), rising(15)}, {rising(16), rising(16)}, {rising(17), rising(16)}, {rising(500), rising(16)}, {slices.Concat([]int{1, 2}, make([]int, 14), []int{9, 9}), []int{1, 2}}, {slices.Concat(make([]int, 16), []int{9}), nil},
	} {
		if got := vector.Bare(x.v); !slices.Equal(got, x.want) {
			t.Errorf("Bare(%d) = %d, want %d", x.v, got, x.want)
		}
	}
}

// P10.1: Bare of many lists, against the chapter's words; a normalized vector remains as it is.
func TestBare(t *testing.T) {
	try := func(v []int) {
		got := vector.Bare(v)
		check(t, "Bare", got, func(d int) int { return states(v, d) })
		if isVector(v) && !slices.Equal(got, v) {
			t.Fatalf("Bare(%d) = %d", v, got)
		}
	}
	for _, v := range slices.Concat(lists(), small()) {
		try(v)
	}
	random(func(_ *rand.Rand, list func() []int) { try(list()) })
}

// P10.1: the chapter's examples of Get, and domains about the ends.
func TestGetExamples(t *testing.T) {
	for _, x := range []struct {
		v            []int
		domain, want int
	}{
		{[]int{-3}, 1, 0}, {[]int{1 << 50}, 1, greatest}, // the chapter's own
		{nil, 1, 0}, {nil, 0, 0}, {[]int{}, 1, 0}, {[]int{5}, 1, 5}, {[]int{5}, 2, 0}, {[]int{5}, 0, 0}, {[]int{5}, -1, 0}, {[]int{5}, 16, 0}, {[]int{5}, 17, 0}, {[]int{5}, math.MinInt, 0}, {[]int{5}, math.MaxInt, 0},
		{[]int{4, 5, 6}, 1, 4}, {[]int{4, 5, 6}, 2, 5}, {[]int{4, 5, 6}, 3, 6}, {[]int{4, 5, 6}, 4, 0}, {[]int{0, 5, 0}, 2, 5}, {[]int{0, 5, 0}, 3, 0},
		{[]int{greatest}, 1, greatest}, {[]int{greatest - 1}, 1, greatest - 1}, {[]int{greatest + 1}, 1, greatest}, {[]int{1, math.MaxInt}, 2, greatest}, {[]int{1, math.MinInt}, 2, 0}, {[]int{math.MinInt, 1}, 1, 0},
		{rising(15), 15, 15}, {rising(15), 16, 0}, {rising(16), 16, 16}, {rising(16), 17, 0}, {rising(17), 16, 16}, {rising(17), 17, 0}, {rising(100), 17, 0}, {rising(100), 100, 0}, {rising(100), 16, 16}, {rising(16), 0, 0}, {rising(16), -15, 0},
	} {
		if got := vector.Get(x.v, x.domain); got != x.want {
			t.Errorf("Get(%d, %d) = %d, want %d", x.v, x.domain, got, x.want)
		}
	}
}

// P10.1: Get of many lists, for each domain and for such as are none.
func TestGet(t *testing.T) {
	for _, v := range slices.Concat(lists(), small()) {
		for _, d := range places() {
			if got := vector.Get(v, d); got != states(v, d) {
				t.Fatalf("Get(%d, %d) = %d, want %d", v, d, got, states(v, d))
			}
		}
	}
	random(func(r *rand.Rand, list func() []int) {
		v := list()
		d := r.Intn(24) - 3
		if got := vector.Get(v, d); got != states(v, d) {
			t.Fatalf("Get(%d, %d) = %d, want %d", v, d, got, states(v, d))
		}
	})
}

// P10.1: the chapter's examples of With, and some more, written out.
func TestWithExamples(t *testing.T) {
	for _, x := range []struct {
		v         []int
		domain, n int
		want      []int
	}{
		{nil, 4, 9, []int{0, 0, 0, 9}}, {[]int{1, 0, 3}, 3, 0, []int{1}}, // the chapter's own
		{nil, 1, 0, nil}, {nil, 1, 1, []int{1}}, {nil, 16, 0, nil}, {nil, 16, -1, nil}, {nil, 16, 2, with(make([]int, 16), 15, 2)}, {nil, 17, 2, nil}, {nil, 0, 2, nil}, {nil, math.MinInt, 2, nil}, {nil, math.MaxInt, 2, nil},
		{[]int{5}, 1, 0, nil}, {[]int{5}, 1, -7, nil}, {[]int{5}, 1, math.MinInt, nil}, {[]int{5}, 1, 6, []int{6}}, {[]int{5}, 1, 4, []int{4}}, {[]int{5}, 1, greatest, []int{greatest}}, {[]int{5}, 1, greatest + 1, []int{greatest}}, {[]int{5}, 1, math.MaxInt, []int{greatest}}, {[]int{5}, 2, 6, []int{5, 6}},
		{[]int{5}, 0, 9, []int{5}}, {[]int{5}, -1, 9, []int{5}}, {[]int{5}, 17, 9, []int{5}}, {[]int{5, 0}, 17, 9, []int{5}}, {[]int{-5, 1 << 50, 0}, 0, 9, []int{0, greatest}},
		{[]int{-5, 1 << 50, 0}, 3, 9, []int{0, greatest, 9}}, {[]int{-5, 1 << 50, 0}, 2, 0, nil}, {[]int{-5, 1 << 50, 0}, 1, 1, []int{1, greatest}}, {[]int{1, 0, 0, 4}, 4, 0, []int{1}}, {[]int{1, 0, 0, 4}, 1, 0, []int{0, 0, 0, 4}},
		{rising(16), 16, 0, rising(15)}, {rising(16), 16, 99, with(rising(16), 15, 99)}, {rising(17), 17, 99, rising(16)}, {rising(17), 16, 0, rising(15)}, {rising(15), 16, 16, rising(16)}, {rising(300), 300, 0, rising(16)},
	} {
		if got := vector.With(x.v, x.domain, x.n); !slices.Equal(got, x.want) {
			t.Errorf("With(%d, %d, %d) = %d, want %d", x.v, x.domain, x.n, got, x.want)
		}
	}
}

// tryWith tells if With is not what the chapter says.
func tryWith(t *testing.T, v []int, domain, n int) {
	t.Helper()
	got := vector.With(v, domain, n)
	check(t, "With", got, func(d int) int {
		if d == domain {
			return nearest(n)
		}
		return states(v, d)
	})
	if (domain < 1 || domain > domains) && !slices.Equal(got, vector.Bare(v)) {
		t.Fatalf("With(%d, %d, %d) = %d", v, domain, n, got)
	}
}

// P10.1: With of many lists, for each domain and for such as are none, with numbers about the ends.
func TestWith(t *testing.T) {
	for i, v := range slices.Concat(lists(), small()) {
		for _, d := range places() {
			tryWith(t, v, d, numbers()[(i+(d&31))%len(numbers())])
			tryWith(t, v, d, 0)
		}
	}
	for _, n := range numbers() {
		for _, d := range places() {
			for _, v := range [][]int{nil, {3}, rising(15), rising(16), rising(17), {0, -1, greatest + 1, 0}} {
				tryWith(t, v, d, n)
			}
		}
	}
	random(func(r *rand.Rand, list func() []int) {
		tryWith(t, list(), r.Intn(22)-2, numbers()[r.Intn(len(numbers()))])
	})
}

// P10.2: the chapter's examples of Join, and some more, written out.
func TestJoinExamples(t *testing.T) {
	for _, x := range []struct{ a, b, want []int }{
		{[]int{1, 0, 3}, []int{0, 2}, []int{1, 2, 3}}, // the chapter's own
		{nil, nil, nil}, {nil, []int{}, nil}, {nil, []int{0, 0}, nil}, {[]int{-1}, []int{-2}, nil}, {nil, []int{3}, []int{3}}, {[]int{3}, nil, []int{3}}, {[]int{3}, []int{3}, []int{3}}, {[]int{3}, []int{4}, []int{4}}, {[]int{4}, []int{3}, []int{4}},
		{[]int{1}, []int{0, 0, 5}, []int{1, 0, 5}}, {[]int{1, 2, 0}, []int{0, 0, 0, 0}, []int{1, 2}}, {[]int{-1, 2}, []int{1, -2}, []int{1, 2}}, {[]int{math.MinInt}, []int{math.MaxInt}, []int{greatest}}, {[]int{greatest}, []int{greatest + 1}, []int{greatest}}, {[]int{greatest - 1}, []int{greatest}, []int{greatest}},
		{rising(16), []int{9, 9, 9}, slices.Concat([]int{9, 9, 9}, rising(16)[3:])}, {rising(17), nil, rising(16)}, {nil, rising(40), rising(16)}, {rising(15), rising(16), rising(16)}, {rising(17), rising(14), rising(16)}, {slices.Concat(make([]int, 16), []int{9}), slices.Concat([]int{2}, make([]int, 15), []int{9}), []int{2}},
	} {
		if got := vector.Join(x.a, x.b); !slices.Equal(got, x.want) {
			t.Errorf("Join(%d, %d) = %d, want %d", x.a, x.b, got, x.want)
		}
	}
}

// P10.2: the chapter's examples of Covers, and some more.
func TestCoversExamples(t *testing.T) {
	for _, x := range []struct {
		a, b []int
		want bool
	}{
		{[]int{2, 1}, []int{1, 2}, false}, {[]int{1}, []int{1, 0}, true}, // the chapter's own
		{nil, nil, true}, {nil, []int{0}, true}, {nil, []int{-1, 0, -5}, true}, {nil, []int{1}, false}, {[]int{1}, nil, true}, {[]int{-1}, nil, true}, {[]int{-2}, []int{-1}, true}, {[]int{0}, []int{-1}, true},
		{[]int{1, 2}, []int{2, 1}, false}, {[]int{2, 2}, []int{1, 2}, true}, {[]int{1, 2}, []int{1, 2}, true}, {[]int{1, 2}, []int{1, 3}, false}, {[]int{1, 2}, []int{1, 2, 1}, false}, {[]int{1, 2, 0}, []int{1, 2, 1}, false}, {[]int{1, 2, 3}, []int{1, 2}, true}, {[]int{5, 0, 5}, []int{0, 1, 0}, false},
		{[]int{greatest}, []int{greatest + 1}, true}, {[]int{greatest}, []int{math.MaxInt}, true}, {[]int{greatest + 1}, []int{greatest + 2}, true}, {[]int{greatest - 1}, []int{greatest}, false}, {[]int{math.MinInt}, []int{0}, true}, {[]int{math.MinInt}, []int{1}, false},
		{rising(16), rising(16), true}, {rising(16), rising(15), true}, {rising(15), rising(16), false}, {rising(16), rising(17), true}, {rising(16), rising(1000), true}, {rising(17), with(rising(17), 16, 99), true}, {nil, slices.Concat(make([]int, 16), []int{9}), true}, {nil, with(make([]int, 17), 15, 9), false}, {with(rising(16), 15, 15), rising(16), false},
	} {
		if got := vector.Covers(x.a, x.b); got != x.want {
			t.Errorf("Covers(%d, %d) = %v", x.a, x.b, got)
		}
	}
}

// tryPair tells if Join or Covers is not what the chapter says.
func tryPair(t *testing.T, a, b []int) {
	t.Helper()
	covers := true
	check(t, "Join", vector.Join(a, b), func(d int) int {
		if states(a, d) < states(b, d) {
			covers = false
			return states(b, d)
		}
		return states(a, d)
	})
	if got := vector.Covers(a, b); got != covers {
		t.Fatalf("Covers(%d, %d) = %v", a, b, got)
	}
}

// P10.2: Join and Covers of many pairs, against the chapter's words.
func TestPairs(t *testing.T) {
	all := lists()
	for _, a := range all {
		for _, b := range all {
			tryPair(t, a, b)
		}
	}
	random(func(_ *rand.Rand, list func() []int) {
		a, b := list(), list()
		tryPair(t, a, b)
		tryPair(t, vector.Bare(a), b)
		tryPair(t, vector.Join(a, b), b)
	})
}

// P10.2: what differs at one domain alone is seen, whichever it is.
func TestEachDomain(t *testing.T) {
	for d := 1; d <= 20; d++ {
		for size := d; size <= 20; size++ {
			low := slices.Repeat([]int{4}, size)
			high := with(low, d-1, 5)
			if got := vector.Covers(low, high); got != (d > domains) {
				t.Errorf("domain %d of %d: Covers = %v", d, size, got)
			}
			if !vector.Covers(high, low) || !slices.Equal(vector.Join(low, high), vector.Bare(high)) || !slices.Equal(vector.Join(high, low), vector.Bare(high)) {
				t.Errorf("domain %d of %d: Join = %d", d, size, vector.Join(low, high))
			}
		}
	}
}

// tryLeast tells if Join(a, b) does not cover both, or if less does so.
func tryLeast(t *testing.T, a, b []int) {
	t.Helper()
	j := vector.Join(a, b)
	if !vector.Covers(j, a) || !vector.Covers(j, b) {
		t.Fatalf("Join(%d, %d) = %d, which does not cover both", a, b, j)
	}
	for i, n := range j {
		if less := with(j, i, n-1); n > 0 && vector.Covers(less, a) && vector.Covers(less, b) {
			t.Fatalf("Join(%d, %d) = %d, but %d covers both", a, b, j, less)
		}
	}
}

// tryLaws tells if Join is not commutative, associative or idempotent for these three.
func tryLaws(t *testing.T, a, b, c []int) {
	t.Helper()
	if !slices.Equal(vector.Join(a, b), vector.Join(b, a)) {
		t.Fatalf("Join(%d, %d) is not commutative", a, b)
	}
	left, right := vector.Join(vector.Join(a, b), c), vector.Join(a, vector.Join(b, c))
	if !slices.Equal(left, right) {
		t.Fatalf("of %d, %d and %d: %d and %d", a, b, c, left, right)
	}
	if got := vector.Join(a, a); !slices.Equal(got, vector.Bare(a)) || !slices.Equal(vector.Join(got, got), got) {
		t.Fatalf("Join(%d, %d) = %d", a, a, got)
	}
}

// P10.4: of all small lists, those that cover the join are those that cover both; and the laws hold.
func TestLeastOfSmall(t *testing.T) {
	all := small()
	for _, a := range all {
		for _, b := range all {
			j := vector.Join(a, b)
			tryLeast(t, a, b)
			for _, c := range all {
				if both := vector.Covers(c, a) && vector.Covers(c, b); both != vector.Covers(c, j) {
					t.Fatalf("%d covers %d: %v; both of %d and %d: %v", c, j, !both, a, b, both)
				}
				tryLaws(t, a, b, c)
			}
		}
	}
}

// P10.4: the same of lists of all lengths and numbers.
func TestLeast(t *testing.T) {
	all := lists()
	for i, a := range all {
		for k, b := range all {
			tryLeast(t, a, b)
			tryLaws(t, a, b, all[(7*i+13*k)%len(all)])
		}
	}
	random(func(_ *rand.Rand, list func() []int) {
		a, b := list(), list()
		tryLeast(t, a, b)
		tryLaws(t, a, b, list())
		upper := vector.Join(vector.Join(a, b), list()) // covers both, and so covers their join
		if !vector.Covers(upper, vector.Join(a, b)) {
			t.Fatalf("%d does not cover the join of %d and %d", upper, a, b)
		}
	})
}

// encoded is the encoding of a list, as P10.3 has it.
func encoded(v []int) []byte {
	b := wire.Number(nil, len(v))
	for _, n := range v {
		b = wire.Number(b, n)
	}
	return b
}

// P10.3: the chapter's examples of Put, and encodings written out.
func TestPutExamples(t *testing.T) {
	for _, x := range []struct {
		b    string
		v    []int
		want string
		err  api.Errno
	}{
		{"", []int{1, 0}, "", api.ErrArg}, {"", []int{1, 2}, "\x01\x02\x01\x01\x01\x02", api.OK}, // the chapter's own
		{"", nil, "\x00", api.OK}, {"ab", []int{}, "ab\x00", api.OK}, {"ab", []int{1, 2}, "ab\x01\x02\x01\x01\x01\x02", api.OK}, {"", []int{0, 256}, "\x01\x02\x00\x02\x01\x00", api.OK},
		{"", []int{greatest}, "\x01\x01\x06\x01\x00\x00\x00\x00\x00", api.OK}, {"\x00", []int{greatest - 1}, "\x00\x01\x01\x05\xff\xff\xff\xff\xff", api.OK}, {"", with(make([]int, 16), 15, 3), "\x01\x10" + string(make([]byte, 15)) + "\x01\x03", api.OK},
		{"ab", []int{0}, "", api.ErrArg}, {"ab", []int{-1}, "", api.ErrArg}, {"ab", []int{greatest + 1}, "", api.ErrArg}, {"ab", []int{-1, 1}, "", api.ErrArg}, {"ab", []int{math.MaxInt, 1}, "", api.ErrArg}, {"ab", []int{math.MinInt}, "", api.ErrArg}, {"ab", make([]int, 16), "", api.ErrArg}, {"ab", rising(17), "", api.ErrArg}, {"ab", with(rising(17), 16, 0), "", api.ErrArg}, {"ab", rising(300), "", api.ErrArg},
	} {
		got, e := vector.Put([]byte(x.b), x.v)
		if string(got) != x.want || e != x.err {
			t.Errorf("Put(%q, %d) = %d, %v, want %d, %v", x.b, x.v, got, e, []byte(x.want), x.err)
		}
		if e != api.OK && got != nil {
			t.Errorf("Put(%q, %d) returns %d beside the error %v", x.b, x.v, got, e)
		}
	}
}

// P10.3: Put of many lists, behind bytes that stand ahead.
func TestPut(t *testing.T) {
	try := func(v []int, ahead []byte) {
		got, e := vector.Put(ahead, v)
		if !isVector(v) {
			if got != nil || e != api.ErrArg {
				t.Fatalf("Put of %d = %d, %v", v, got, e)
			}
			return
		}
		if want := slices.Concat(ahead, encoded(v)); !bytes.Equal(got, want) || e != api.OK {
			t.Fatalf("Put of %d behind %d = %d, %v", v, ahead, got, e)
		}
	}
	for _, v := range slices.Concat(lists(), small()) {
		for _, ahead := range []string{"", "\x00", "\x01\x01\x00", "some bytes that stand ahead"} {
			try(v, []byte(ahead))
			try(vector.Bare(v), []byte(ahead))
		}
	}
	random(func(r *rand.Rand, list func() []int) {
		v, ahead := list(), make([]byte, r.Intn(10))
		r.Read(ahead)
		try(v, ahead)
		try(vector.Bare(v), ahead)
	})
	try(rising(16), make([]byte, 1<<20))
}

// P10.3: what Read returns of bytes, the error that the cursor has then, and its place.
func TestReadExamples(t *testing.T) {
	for _, x := range []struct {
		b     string
		want  []int
		err   api.Errno
		place int
	}{
		{"\x01\x01\x00", nil, api.ErrBytes, 3}, {"\x01\x02\x01\x01\x01\x02", []int{1, 2}, api.OK, 6}, // the chapter's own
		{"\x00", nil, api.OK, 1}, {"\x00\x01\x01", nil, api.OK, 1}, {"\x01\x01\x01\x07", []int{7}, api.OK, 4}, {"\x01\x01\x01\x07\xff", []int{7}, api.OK, 4}, {"\x01\x03\x00\x00\x01\x07", []int{0, 0, 7}, api.OK, 6}, {"\x01\x01\x06\x01\x00\x00\x00\x00\x00", []int{greatest}, api.OK, 9},
		// no length
		{"", nil, api.ErrShort, 0}, {"\x01", nil, api.ErrShort, 0}, {"\x02\x01", nil, api.ErrShort, 0}, {"\x01\x00", nil, api.ErrBytes, 0}, {"\x02\x00\x01\x01\x01", nil, api.ErrBytes, 0}, {"\x09", nil, api.ErrBytes, 0}, {"\xff\xff", nil, api.ErrBytes, 0},
		{"\x01\x11", nil, api.ErrBytes, 0}, {"\x01\x11" + string(make([]byte, 40)), nil, api.ErrBytes, 0}, {"\x01\xff", nil, api.ErrBytes, 0}, {"\x02\x01\x00", nil, api.ErrBytes, 0}, {"\x06\x01\x00\x00\x00\x00\x00", nil, api.ErrBytes, 0}, {"\x08\x7f\xff\xff\xff\xff\xff\xff\xff", nil, api.ErrBytes, 0}, {"\x08\xff\xff\xff\xff\xff\xff\xff\xff", nil, api.ErrBytes, 0}, {"\x08\x7f\xff\xff\xff\xff\xff\xff", nil, api.ErrShort, 0},
		// the longest, and a length that the numbers do not reach
		{"\x01\x10" + string(make([]byte, 15)) + "\x01\x03", with(make([]int, 16), 15, 3), api.OK, 19}, {"\x01\x10" + string(make([]byte, 16)), nil, api.ErrBytes, 18}, {"\x01\x10" + string(make([]byte, 15)), nil, api.ErrShort, 17}, {"\x01\x10", nil, api.ErrShort, 2},
		// no number
		{"\x01\x01", nil, api.ErrShort, 2}, {"\x01\x01\x01", nil, api.ErrShort, 2}, {"\x01\x01\x05\xff\xff\xff\xff", nil, api.ErrShort, 2}, {"\x01\x02\x01\x07", nil, api.ErrShort, 4}, {"\x01\x02\x01\x07\x02\x01", nil, api.ErrShort, 4}, {"\x01\x02\x00", nil, api.ErrShort, 3}, {"\x01\x01\x09", nil, api.ErrBytes, 2}, {"\x01\x01\x01\x00", nil, api.ErrBytes, 2}, {"\x01\x02\x01\x00\x01\x01", nil, api.ErrBytes, 2}, {"\x01\x02\x01\x07\x02\x00\x07", nil, api.ErrBytes, 4},
		{"\x01\x01\x06\x01\x00\x00\x00\x00\x01", nil, api.ErrBytes, 2}, {"\x01\x01\x08\x7f\xff\xff\xff\xff\xff\xff\xff", nil, api.ErrBytes, 2}, {"\x01\x01\x08\x80\x00\x00\x00\x00\x00\x00\x00", nil, api.ErrBytes, 2}, {"\x01\x02\x01\x07\x06\x01\x00\x00\x00\x00\x01", nil, api.ErrBytes, 4}, {"\x01\x02\x06\x01\x00\x00\x00\x00\x01\x01\x07", nil, api.ErrBytes, 2},
		// the last one 0; the first error is another one
		{"\x01\x02\x01\x07\x00", nil, api.ErrBytes, 5}, {"\x01\x03\x00\x01\x07\x00\xff", nil, api.ErrBytes, 6}, {"\x01\x02\x00\x00", nil, api.ErrBytes, 4}, {"\x01\x02\x01\x07\x00\x01\x05", nil, api.ErrBytes, 5}, {"\x01\x03\x00\x00", nil, api.ErrShort, 4}, {"\x01\x04\x01\x01\x09\x00\x00", nil, api.ErrBytes, 4}, {"\x01\x04\x01\x01\x03\x01", nil, api.ErrShort, 4},
	} {
		for _, ahead := range []int{0, 1, 5} {
			c := wire.New(append(make([]byte, ahead), x.b...))
			for range ahead {
				c.Number(0, 0)
			}
			got := vector.Read(c)
			if !slices.Equal(got, x.want) || c.Err() != x.err || c.Place() != ahead+x.place {
				t.Errorf("Read of %d = %d, %v at %d; want %d, %v at %d", []byte(x.b), got, c.Err(), c.Place()-ahead, x.want, x.err, x.place)
			}
			if x.err != api.OK && got != nil {
				t.Errorf("Read of %d returns %d beside the error %v", []byte(x.b), got, c.Err())
			}
		}
	}
}

// P10.3: Read of no cursor, and of one that has an error already, which stays.
func TestReadOfCursorWithError(t *testing.T) {
	if got := vector.Read(nil); got != nil {
		t.Error(got)
	}
	for _, e := range []api.Errno{api.ErrArg, api.ErrBytes, api.ErrShort, api.ErrCred, api.ErrScript, 1000, -1, math.MinInt} {
		for _, b := range []string{"", "\x00", "\x01\x02\x01\x01\x01\x02", "\x01\x01\x00", "\x01\x11", "\x09"} {
			for _, ahead := range []int{0, 2} {
				c := wire.New(append(make([]byte, ahead), b...))
				for range ahead {
					c.Number(0, 0)
				}
				c.Fail(e)
				for range 2 {
					if got := vector.Read(c); got != nil || c.Err() != e || c.Place() != ahead {
						t.Errorf("Read of %d with the error %d = %d, %d at %d", []byte(b), e, got, c.Err(), c.Place())
					}
				}
			}
		}
	}
}

// P10.3: Read again, where it has found an error: nothing more is read, and the error stays.
func TestReadAfterError(t *testing.T) {
	for _, b := range []string{"\x01\x01\x00\x01\x01\x01\x05", "\x01\x11\x01\x01\x01\x05", "\x01\x02\x01\x05\x01\x00"} {
		c := wire.New([]byte(b))
		vector.Read(c)
		e, place := c.Err(), c.Place()
		if got := vector.Read(c); e != api.ErrBytes || got != nil || c.Err() != e || c.Place() != place {
			t.Errorf("Read of %d again = %d, %v at %d", []byte(b), got, c.Err(), c.Place())
		}
	}
}

// reference is what P10.3 says of Read, by Number itself: the numbers, the error and the place.
func reference(b []byte) ([]int, api.Errno, int) {
	c := wire.New(b)
	length := c.Number(0, domains)
	if c.Err() != api.OK {
		return nil, c.Err(), c.Place()
	}
	var v []int
	for len(v) < length {
		v = append(v, c.Number(0, greatest))
		if c.Err() != api.OK {
			return nil, c.Err(), c.Place()
		}
	}
	if length > 0 && v[length-1] == 0 {
		return nil, api.ErrBytes, c.Place()
	}
	return v, api.OK, c.Place()
}

// tryRead tells if Read is not what the chapter says, or if what it reads is not put as the same bytes.
func tryRead(t *testing.T, b []byte) {
	t.Helper()
	c := wire.New(b)
	got := vector.Read(c)
	want, e, place := reference(b)
	if !slices.Equal(got, want) || c.Err() != e || c.Place() != place {
		t.Fatalf("Read of %d = %d, %v at %d; want %d, %v at %d", b, got, c.Err(), c.Place(), want, e, place)
	}
	if e != api.OK {
		return
	}
	if again, e := vector.Put(nil, got); e != api.OK || !bytes.Equal(again, b[:place]) {
		t.Fatalf("Read of %d = %d, which is put as %d, %v", b, got, again, e)
	}
}

// P10.3 and P10.5: all short bytes of such as matter.
func TestReadAllShort(t *testing.T) {
	const alphabet = "\x00\x01\x02\x03\x05\x06\x08\x09\x10\x11\xff"
	var grow func(b []byte)
	grow = func(b []byte) {
		tryRead(t, b)
		if len(b) == 5 {
			return
		}
		for _, x := range []byte(alphabet) {
			grow(append(b[:len(b):len(b)], x))
		}
	}
	grow(nil)
}

// P10.3: encodings of lists that are vectors and of some that are not, whole, cut off at each byte, and with one byte changed.
func TestReadCutOff(t *testing.T) {
	for _, v := range [][]int{{1}, {0}, {1, 0}, rising(15), rising(16), rising(17), {greatest, 0, greatest - 1}, {1, greatest + 1, 2}, slices.Repeat([]int{greatest}, 16), with(rising(16), 15, 0), make([]int, 16), {0, 300, 70000, 1 << 30, 1 << 36}, {math.MaxInt}} {
		whole := encoded(v)
		for n := range len(whole) + 1 {
			tryRead(t, whole[:n])
		}
		for i := range whole {
			for _, x := range []byte{0, 1, 2, 8, 9, 16, 17, 255, whole[i] + 1, whole[i] - 1} {
				changed := bytes.Clone(whole)
				changed[i] = x
				tryRead(t, changed)
			}
		}
	}
}

// P10.3: an encoding that ends too soon is short, wherever it ends, and the place is ahead of the number that ends.
func TestReadShort(t *testing.T) {
	for _, v := range [][]int{{1}, {greatest}, rising(16), {0, 300, 70000, 1 << 30, 1 << 36, greatest}} {
		whole := encoded(v)
		place, next := 0, len(wire.Number(nil, len(v)))
		rest := v
		for n := range whole {
			if n == next {
				place, next, rest = next, next+len(wire.Number(nil, rest[0])), rest[1:]
			}
			c := wire.New(whole[:n])
			if got := vector.Read(c); got != nil || c.Err() != api.ErrShort || c.Place() != place {
				t.Fatalf("Read of %d = %d, %v at %d, not at %d", whole[:n], got, c.Err(), c.Place(), place)
			}
		}
	}
}

// P10.5: what was put is read, whatever stands ahead of it or follows it.
func TestPutAndRead(t *testing.T) {
	try := func(v []int, ahead int, behind string) {
		b, e := vector.Put(make([]byte, ahead), v)
		if e != api.OK {
			t.Fatalf("Put of %d: %v", v, e)
		}
		c := wire.New(append(b, behind...))
		for range ahead {
			c.Number(0, 0)
		}
		if got := vector.Read(c); !slices.Equal(got, v) || c.Err() != api.OK || c.Place() != len(b) || (c.End() == api.OK) != (behind == "") {
			t.Fatalf("%d is read as %d, %v at %d", v, got, c.Err(), c.Place())
		}
	}
	for _, v := range slices.Concat(lists(), small()) {
		for _, behind := range []string{"", "\x00", "\x01\x01\x00", "\x09", "\x01", "more bytes"} {
			try(vector.Bare(v), 0, behind)
			try(vector.Bare(v), 3, behind)
		}
	}
	random(func(r *rand.Rand, list func() []int) {
		behind := make([]byte, r.Intn(6))
		r.Read(behind)
		try(vector.Bare(list()), r.Intn(4), string(behind))
	})
}

// P10.5: several vectors, one behind the other, are read in their order.
func TestPutAndReadSeveral(t *testing.T) {
	random(func(r *rand.Rand, list func() []int) {
		var all [][]int
		var b []byte
		for range r.Intn(5) {
			v := vector.Bare(list())
			all = append(all, v)
			b, _ = vector.Put(b, v)
		}
		c := wire.New(b)
		for _, v := range all {
			if got := vector.Read(c); !slices.Equal(got, v) {
				t.Fatalf("%d is read as %d", v, got)
			}
		}
		if c.End() != api.OK {
			t.Fatal(c.End())
		}
	})
}

// calls are the calls that return a list, of two lists.
func calls() []func(a, b []int) []int {
	return []func(a, b []int) []int{
		func(a, _ []int) []int { return vector.Bare(a) },
		func(a, b []int) []int { return vector.With(a, len(b), len(a)+1) },
		func(a, b []int) []int { return vector.With(a, -len(b), 1) },
		func(a, b []int) []int { return vector.Join(a, b) },
		func(a, b []int) []int { return vector.Join(b, a) },
	}
}

// askAll makes each call that takes lists, and returns nothing.
func askAll(a, b []int, ahead []byte) {
	for _, call := range calls() {
		call(a, b)
	}
	vector.May(a)
	vector.Get(a, len(b))
	vector.Covers(a, b)
	vector.Put(ahead, a)
	vector.Put(ahead, vector.Bare(a))
}

// R4: what is handed in is not changed, not even ahead of it or in its spare room.
func TestArgumentsStay(t *testing.T) {
	try := func(a, b []int) {
		first := slices.Concat([]int{-8, 8}, a, []int{0, 6, -7, 1 << 50, 0, 3})
		second := slices.Concat([]int{-9, 9}, b, slices.Repeat([]int{5}, 20))
		ahead := []byte("some bytes, and their spare room, which is long enough for any vector: 16 numbers of at most 7 bytes each, and their length ahead of them, which is 114")
		before := [][]int{slices.Clone(first), slices.Clone(second)}
		written := bytes.Clone(ahead)
		askAll(first[2:2+len(a)], second[2:2+len(b)], ahead[:9])
		if !slices.Equal(first, before[0]) || !slices.Equal(second, before[1]) || !bytes.Equal(ahead, written) {
			t.Fatalf("%d, %d or the bytes ahead were changed: %d, %d, %q", a, b, first, second, ahead)
		}
	}
	all := lists()
	for i, a := range all {
		try(a, all[(5*i+3)%len(all)])
	}
	random(func(_ *rand.Rand, list func() []int) { try(list(), list()) })
}

// R4: the numbers and the bytes behind the end of what is handed in, and its capacity, do not count.
func TestSpareRoomDoesNotCount(t *testing.T) {
	random(func(_ *rand.Rand, list func() []int) {
		a, b := list(), list()
		long, other := slices.Concat(a, slices.Repeat([]int{77}, 20))[:len(a)], slices.Concat(b, slices.Repeat([]int{78}, 20))[:len(b)]
		tight, narrow := slices.Clip(slices.Clone(a)), slices.Clip(slices.Clone(b))
		for i, call := range calls() {
			if got, want := call(long, other), call(tight, narrow); !slices.Equal(got, want) {
				t.Fatalf("call %d of %d and %d: %d and %d", i, a, b, got, want)
			}
		}
		if vector.May(long) != vector.May(tight) || vector.Covers(long, other) != vector.Covers(tight, narrow) || vector.Get(long, len(a)+1) != vector.Get(tight, len(a)+1) {
			t.Fatalf("what stands behind %d or %d counts", a, b)
		}
	})
}

// R4: a list that is returned shares no memory, spare room included, with what was handed in or with what was returned before.
func TestResultsAreNew(t *testing.T) {
	try := func(a, b []int) {
		for i, call := range calls() {
			a, b := slices.Grow(slices.Clone(a), 20), slices.Grow(slices.Clone(b), 20)
			first := call(a, b)
			want := slices.Clone(first)
			second := call(a, b)
			overwrite(a)
			overwrite(b)
			if !slices.Equal(first, want) || !slices.Equal(second, want) {
				t.Fatalf("call %d shares memory with what was handed in", i)
			}
			room := second[:cap(second)]
			before := slices.Clone(room)
			overwrite(first)
			if !slices.Equal(room, before) {
				t.Fatalf("call %d shares memory with what it returned before", i)
			}
		}
	}
	all := lists()
	for i, a := range all {
		try(a, all[(5*i+3)%len(all)])
	}
	random(func(_ *rand.Rand, list func() []int) { try(list(), list()) })
}

// overwrite writes to all of l, its spare room included.
func overwrite(l []int) {
	l = l[:cap(l)]
	for i := range l {
		l[i] = -99 - i
	}
}

// R4: what is cut off is not spare capacity of what is returned.
func TestNothingBehindTheEnd(t *testing.T) {
	random(func(_ *rand.Rand, list func() []int) {
		a, b := list(), list()
		for i, call := range calls() {
			if got := call(a, b); slices.ContainsFunc(got[len(got):cap(got)], func(n int) bool { return n != 0 }) {
				t.Fatalf("call %d of %d and %d leaves %d behind the end", i, a, b, got[:cap(got)])
			}
		}
	})
}

// R4: the bytes that Put returns share no memory with those that stand ahead, with or without spare room.
func TestPutIsNew(t *testing.T) {
	for _, v := range [][]int{nil, {1}, rising(16)} {
		for _, spare := range []int{0, 1, 300} {
			ahead := append(make([]byte, 0, 3+spare), 1, 2, 3)
			first, _ := vector.Put(ahead, v)
			second, _ := vector.Put(ahead, v)
			want := slices.Concat([]byte{1, 2, 3}, encoded(v))
			clear(ahead[:cap(ahead)])
			clear(first[:cap(first)])
			if !bytes.Equal(second, want) {
				t.Errorf("Put of %d with room for %d: %d", v, spare, second)
			}
			if none, _ := vector.Put(nil, v); !bytes.Equal(none, want[3:]) {
				t.Error(none)
			}
		}
	}
}

// R4: what Read returns is not the cursor's, and is new each time.
func TestReadIsNew(t *testing.T) {
	b := encoded(rising(16))
	c := wire.New(slices.Concat(b, b))
	first := vector.Read(c)
	overwrite(first)
	second := vector.Read(c)
	if !slices.Equal(second, rising(16)) {
		t.Error(second)
	}
	overwrite(second)
	if again := vector.Read(wire.New(b)); !slices.Equal(again, rising(16)) {
		t.Error(again)
	}
}

// R4: nil and empty lists are equivalent, and so are nil and empty bytes.
func TestNilAndEmpty(t *testing.T) {
	for _, v := range slices.Concat(lists(), [][]int{nil}) {
		for i, call := range calls() {
			if !slices.Equal(call(v, nil), call(v, []int{})) || !slices.Equal(call(nil, v), call([]int{}, v)) {
				t.Errorf("call %d of %d and none", i, v)
			}
		}
		if vector.Covers(v, nil) != vector.Covers(v, []int{}) || vector.Covers(nil, v) != vector.Covers([]int{}, v) {
			t.Errorf("Covers of %d and none", v)
		}
		first, e := vector.Put(nil, v)
		second, f := vector.Put([]byte{}, v)
		if !bytes.Equal(first, second) || e != f {
			t.Errorf("Put of %d: %d, %v and %d, %v", v, first, e, second, f)
		}
	}
}

// R1: no call panics or fails to end with a very long list, whose numbers are vectors' or not.
func TestLongLists(t *testing.T) {
	for _, n := range []int{0, 5, -1, math.MaxInt} {
		long := slices.Repeat([]int{n}, 1<<22)
		want := slices.Repeat([]int{nearest(n)}, 16)
		if n <= 0 {
			want = nil
		}
		if got := vector.Bare(long); !slices.Equal(got, want) {
			t.Error(n, got)
		}
		if got := vector.Join(long, long); !slices.Equal(got, want) || !vector.Covers(long, long) || !vector.Covers(want, long) {
			t.Error(n, got)
		}
		if got := vector.With(long, 1<<22, 3); !slices.Equal(got, want) || vector.Get(long, 1<<22) != 0 {
			t.Error(n, got)
		}
		if _, e := vector.Put(nil, long); vector.May(long) || e != api.ErrArg {
			t.Error(n, e)
		}
	}
}

// answers are those of many calls.
func answers() []int {
	var all []int
	number := func(yes bool) int {
		if yes {
			return 1
		}
		return 0
	}
	l := lists()
	for i, a := range l {
		b := l[(3*i+1)%len(l)]
		for _, call := range calls() {
			got := call(a, b)
			all = append(append(all, len(got)), got...)
		}
		put, e := vector.Put([]byte{9}, a)
		c := wire.New(encoded(b))
		read := vector.Read(c)
		all = append(all, number(vector.May(a)), number(vector.Covers(a, b)), vector.Get(a, i%18), len(put), int(e), len(read), int(c.Err()), c.Place())
	}
	return all
}

// R5: the same calls answer the same each time, from whichever goroutine.
func TestAgain(t *testing.T) {
	want := answers()
	var group sync.WaitGroup
	for range 8 {
		group.Go(func() {
			for range 5 {
				if !slices.Equal(answers(), want) {
					t.Error("other answers")
				}
			}
		})
	}
	group.Wait()
}
