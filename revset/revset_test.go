package revset_test

import (
	"math"
	"math/rand"
	"slices"
	"sync"
	"testing"

	"livery/api"
	"livery/revset"
	"livery/vector"
)

const (
	domains  = 16   // MaxDomains
	greatest = 4000 // MaxSeq
	most     = 32   // MaxRevoked
)

// model is a set as the chapter's words have it: the row of each domain.
type model map[int][]int

// add is Add, as P11.1 has it.
func (m model) add(id api.ID) api.Errno {
	switch {
	case id.Domain < 1 || id.Domain > domains || id.Seq < 1 || id.Seq > greatest:
		return api.ErrArg
	case m.has(id):
		return api.ErrRevoked
	case len(m[id.Domain]) >= most:
		return api.ErrFull
	}
	m[id.Domain] = slices.Concat(m[id.Domain], []int{id.Seq})
	return api.OK
}

// has is Has.
func (m model) has(id api.ID) bool {
	for _, seq := range m[id.Domain] {
		if seq == id.Seq {
			return true
		}
	}
	return false
}

// vector is Vector.
func (m model) vector() []int {
	v := make([]int, domains)
	for i := range v {
		v[i] = len(m[i+1])
	}
	for len(v) > 0 && v[len(v)-1] == 0 {
		v = v[:len(v)-1]
	}
	return v
}

// delta is Delta, as P11.2 has it.
func (m model) delta(known []int) [][]int {
	all := make([][]int, domains)
	for i := range all {
		row := m[i+1]
		all[i] = slices.Clone(row[min(states(known, i+1), len(row)):])
	}
	for len(all) > 0 && len(all[len(all)-1]) == 0 {
		all = all[:len(all)-1]
	}
	return all
}

// merge is Merge, as P11.3 has it, in its order.
func (m model) merge(known []int, more [][]int) int {
	added := 0
	for i, list := range more {
		if i >= domains || len(list) == 0 {
			continue
		}
		row, k := m[i+1], states(known, i+1)
		if k > len(row) {
			continue
		}
		candidate := slices.Concat(row[:k], list)
		if !mayRow(candidate) || !prefix(candidate, row) && !prefix(row, candidate) {
			continue
		}
		if len(candidate) > len(row) {
			added += len(candidate) - len(row)
			m[i+1] = candidate
		}
	}
	return added
}

// copied is Copy.
func (m model) copied() model {
	c := model{}
	for d, row := range m {
		c[d] = slices.Clone(row)
	}
	return c
}

// mayRow reports whether l may be a row.
func mayRow(l []int) bool {
	for i, seq := range l {
		if seq < 1 || seq > greatest || slices.Contains(l[:i], seq) {
			return false
		}
	}
	return len(l) <= most
}

// prefix reports whether l begins with p.
func prefix(p, l []int) bool {
	return len(p) <= len(l) && slices.Equal(p, l[:len(p)])
}

// states is the number that a list states for a domain, as chapter 10 has it.
func states(v []int, domain int) int {
	if domain < 1 || domain > domains || domain > len(v) {
		return 0
	}
	return min(max(v[domain-1], 0), 1<<40)
}

// seqs are Seqs, and such as are none, about the ends.
func seqs() []int {
	return []int{math.MinInt, math.MinInt + 1, -greatest, -1 << 32, -1, 0, 1, 2, 15, 16, 17, 31, 32, 33, 255, 256, 3999, greatest, 4001, 4096, 1<<32 + 1, 1<<32 + 4000, 1 << 40, math.MaxInt - 1, math.MaxInt}
}

// places are domains, and such as are none, about the ends.
func places() []int {
	return []int{math.MinInt, math.MinInt + 1, -1 << 32, -17, -16, -1, 0, 1, 2, 3, 8, 15, 16, 17, 18, 32, 33, 256, 1<<32 + 1, 1<<32 + 16, 1 << 62, math.MaxInt - 1, math.MaxInt}
}

// rising is a list of so many numbers from first on.
func rising(first, size int) []int {
	l := make([]int, size)
	for i := range l {
		l[i] = first + i
	}
	return l
}

// sameLists reports whether two lists of lists are equal; nil and empty ones are.
func sameLists(a, b [][]int) bool {
	return slices.EqualFunc(a, b, slices.Equal[[]int])
}

// made returns a set with the rows of m, which Add made.
func made(t *testing.T, m model) *revset.Set {
	t.Helper()
	s := revset.New()
	for d := 1; d <= domains; d++ {
		for _, seq := range m[d] {
			if e := s.Add(api.ID{Domain: d, Seq: seq}); e != api.OK {
				t.Fatalf("Add of (%d, %d): %v", d, seq, e)
			}
		}
	}
	return s
}

// models are sets that are empty, that have one row, some, and all, short and full ones.
func models() []model {
	all := []model{{}, {2: {5, 3}}, {3: {7}, 9: {7, 8}}, {1: {1}, 16: {1}}}
	for _, d := range []int{1, 2, 8, 15, 16} {
		all = append(all, model{d: {greatest}}, model{d: {9, 1, 4}}, model{d: rising(greatest-most+1, most)})
	}
	each, full, mixed := model{}, model{}, model{}
	for d := 1; d <= domains; d++ {
		each[d] = []int{d}
		full[d] = rising(100*d, most)
		mixed[d] = rising(1, (d*7)%(most+1))
	}
	return append(all, each, full, mixed)
}

// lists are what may be handed in as a vector: vectors and others, normalized and not.
func lists() [][]int {
	all := [][]int{
		nil, {}, {0}, {-1}, {1}, {0, 1}, {0, 2}, {0, 3}, {0, 1, 0}, {1, 0}, {0, 0, 0, 0}, {-5, 1, -5}, {9, 9, 9}, {math.MinInt, math.MaxInt}, {math.MaxInt, math.MinInt},
		{1 << 40}, {1<<40 + 1}, {1 << 50, 1 << 50}, {0, 1<<32 + 1}, {1 << 32, 1 << 32}, {31}, {32}, {33}, {0, 31, 32, 33},
		slices.Concat(make([]int, 15), []int{1}), slices.Concat(make([]int, 16), []int{1}), slices.Concat(slices.Repeat([]int{1}, 16), []int{0, -1, 7}), make([]int, 17), make([]int, 500),
	}
	for _, n := range []int{math.MinInt, -1, 0, 1, 2, 3, 16, 31, 32, 33, 1 << 40, math.MaxInt} {
		for _, size := range []int{2, 15, 16, 17, 40} {
			all = append(all, slices.Repeat([]int{n}, size))
		}
	}
	return append(all, rising(0, 16), rising(1, 17), rising(-8, 20), rising(17, 16))
}

// check tells if a set is not as m, by all that can be asked of it.
func check(t *testing.T, when string, s *revset.Set, m model) {
	t.Helper()
	for d := -1; d <= domains+2; d++ {
		if got := s.Row(d); !slices.Equal(got, m[d]) {
			t.Fatalf("%s: Row(%d) = %d, want %d", when, d, got, m[d])
		}
		for _, seq := range slices.Concat(m[d], []int{0, 1, 5, greatest, 4001}) {
			if got, want := s.Has(api.ID{Domain: d, Seq: seq}), m.has(api.ID{Domain: d, Seq: seq}); got != want {
				t.Fatalf("%s: Has of (%d, %d) = %v", when, d, seq, got)
			}
		}
	}
	if got, want := s.Vector(), m.vector(); !slices.Equal(got, want) {
		t.Fatalf("%s: Vector = %d, want %d", when, got, want)
	}
	if got, want := s.Delta(nil), m.delta(nil); !sameLists(got, want) {
		t.Fatalf("%s: Delta(none) = %d, want %d", when, got, want)
	}
}

// The chapter's numbers are those of api.
func TestLimits(t *testing.T) {
	if api.MaxDomains != domains || api.MaxSeq != greatest || api.MaxRevoked != most {
		t.Error(api.MaxDomains, api.MaxSeq, api.MaxRevoked)
	}
}

// P11.1 to P11.3: the chapter's examples.
func TestExamples(t *testing.T) {
	m := model{2: {5, 3}}
	s := made(t, m)
	check(t, "after Add of (2, 5) and (2, 3)", s, m)
	if e := s.Add(api.ID{Domain: 2, Seq: 5}); e != api.ErrRevoked {
		t.Errorf("Add of (2, 5) again: %v", e)
	}
	if e := s.Add(api.ID{Domain: 1, Seq: 4001}); e != api.ErrArg {
		t.Errorf("Add of (1, 4001): %v", e)
	}
	if got := s.Row(2); !slices.Equal(got, []int{5, 3}) {
		t.Errorf("Row(2) = %d", got)
	}
	if got := s.Vector(); !slices.Equal(got, []int{0, 2}) {
		t.Errorf("Vector = %d", got)
	}
	if got := s.Delta([]int{0, 1}); !sameLists(got, [][]int{nil, {3}}) {
		t.Errorf("Delta = %d", got)
	}
	for _, x := range []struct {
		known []int
		more  [][]int
		want  int
		row   []int
	}{
		{[]int{0, 1}, [][]int{nil, {3, 9}}, 1, []int{5, 3, 9}}, {[]int{0, 1}, [][]int{nil, {4, 9}}, 0, []int{5, 3}},
		{[]int{0, 2}, [][]int{nil, {9}}, 1, []int{5, 3, 9}}, {[]int{0, 7}, [][]int{nil, {8}}, 0, []int{5, 3}},
	} {
		c := s.Copy()
		if got := c.Merge(x.known, x.more); got != x.want {
			t.Errorf("Merge(%d, %d) = %d, want %d", x.known, x.more, got, x.want)
		}
		check(t, "after Merge", c, model{2: x.row})
	}
}

// P11.1: a new set is empty, and new.
func TestNew(t *testing.T) {
	s := revset.New()
	check(t, "new", s, model{})
	if len(s.Vector()) != 0 || len(s.Delta(nil)) != 0 {
		t.Error(s.Vector(), s.Delta(nil))
	}
	if e := s.Add(api.ID{Domain: 1, Seq: 1}); e != api.OK {
		t.Error(e)
	}
	check(t, "another new one", revset.New(), model{})
}

// P11.1: Add and Has of IDs about the ends, each to many sets; an error changes nothing.
func TestAddAndHas(t *testing.T) {
	for _, m := range models() {
		for _, d := range places() {
			s, row := made(t, m), m.copied() // all Seqs are added to the same set, so that rows become full
			for _, seq := range seqs() {
				id := api.ID{Domain: d, Seq: seq}
				if got := s.Has(id); got != row.has(id) {
					t.Fatalf("Has of (%d, %d) = %v, with %d", d, seq, got, row)
				}
				want := row.add(id)
				for _, want := range []api.Errno{want, again(want)} {
					if got := s.Add(id); got != want {
						t.Fatalf("Add of (%d, %d) = %v, want %v, with %d", d, seq, got, want, row)
					}
				}
				if got := s.Has(id); got != row.has(id) {
					t.Fatalf("Has of (%d, %d) = %v, after Add, with %d", d, seq, got, row)
				}
			}
			check(t, "after Add", s, row)
		}
	}
}

// again is what Add returns the second time, by what it returned the first time.
func again(e api.Errno) api.Errno {
	if e == api.OK {
		return api.ErrRevoked
	}
	return e
}

// P11.1: the first error of those that apply.
func TestAddOrderOfErrors(t *testing.T) {
	full := model{1: rising(1, most), 16: rising(greatest-most+1, most)}
	for _, x := range []struct {
		m    model
		id   api.ID
		want api.Errno
	}{
		{full, api.ID{Domain: 1, Seq: 0}, api.ErrArg}, {full, api.ID{Domain: 1, Seq: 4001}, api.ErrArg}, {full, api.ID{Domain: 16, Seq: 4001}, api.ErrArg}, {full, api.ID{Domain: 16, Seq: math.MaxInt}, api.ErrArg}, {full, api.ID{Domain: 1, Seq: math.MinInt}, api.ErrArg},
		{full, api.ID{Domain: 1, Seq: 1}, api.ErrRevoked}, {full, api.ID{Domain: 1, Seq: 32}, api.ErrRevoked}, {full, api.ID{Domain: 16, Seq: 4000}, api.ErrRevoked}, {full, api.ID{Domain: 16, Seq: 3969}, api.ErrRevoked},
		{full, api.ID{Domain: 1, Seq: 33}, api.ErrFull}, {full, api.ID{Domain: 1, Seq: 4000}, api.ErrFull}, {full, api.ID{Domain: 16, Seq: 1}, api.ErrFull}, {full, api.ID{Domain: 16, Seq: 3968}, api.ErrFull},
		{full, api.ID{Domain: 0, Seq: 1}, api.ErrArg}, {full, api.ID{Domain: 17, Seq: 4000}, api.ErrArg}, {full, api.ID{Domain: -1, Seq: 1}, api.ErrArg}, {full, api.ID{Domain: 0, Seq: 0}, api.ErrArg}, {full, api.ID{Domain: 17, Seq: 4001}, api.ErrArg}, {full, api.ID{Domain: math.MinInt, Seq: 1}, api.ErrArg}, {full, api.ID{Domain: math.MaxInt, Seq: 1}, api.ErrArg}, {full, api.ID{}, api.ErrArg},
		{full, api.ID{Domain: 2, Seq: 1}, api.OK}, {full, api.ID{Domain: 15, Seq: 4000}, api.OK}, {model{}, api.ID{Domain: 1, Seq: 1}, api.OK}, {model{}, api.ID{Domain: 16, Seq: 4000}, api.OK}, {model{}, api.ID{}, api.ErrArg},
	} {
		s := made(t, x.m)
		if got := s.Add(x.id); got != x.want {
			t.Errorf("Add of %v = %v, want %v", x.id, got, x.want)
		}
		if got, want := s.Has(x.id), x.want == api.OK || x.want == api.ErrRevoked; got != want {
			t.Errorf("Has of %v = %v", x.id, got)
		}
		if x.want != api.OK {
			check(t, "after an error", s, x.m)
		}
	}
}

// P11.1: the 32nd Seq of a row, and the 33rd one, for each domain; that of one domain leaves room for those of the others.
func TestAddFull(t *testing.T) {
	s, m := revset.New(), model{}
	for d := 1; d <= domains; d++ {
		for i, seq := range rand.New(rand.NewSource(int64(d))).Perm(greatest)[:most+3] {
			id, want := api.ID{Domain: d, Seq: seq + 1}, api.OK
			if i >= most {
				want = api.ErrFull
			}
			if got := s.Add(id); got != want || s.Has(id) != (want == api.OK) {
				t.Fatalf("Add of %v, at %d = %v, want %v", id, i, got, want)
			}
			if want == api.OK {
				m[d] = append(m[d], id.Seq)
			}
		}
		for _, seq := range m[d] {
			if got := s.Add(api.ID{Domain: d, Seq: seq}); got != api.ErrRevoked {
				t.Fatalf("Add of (%d, %d), of a full row = %v", d, seq, got)
			}
		}
		check(t, "filled", s, m)
	}
}

// P11.1: each Seq that there may be is one, and no other one is there after it was added.
func TestAllSeqs(t *testing.T) {
	for seq := 1; seq <= greatest; seq++ {
		s := revset.New()
		id := api.ID{Domain: 1 + seq%domains, Seq: seq}
		if e := s.Add(id); e != api.OK || !s.Has(id) || s.Has(api.ID{Domain: id.Domain, Seq: seq + 1}) || s.Has(api.ID{Domain: id.Domain, Seq: seq - 1}) || s.Has(api.ID{Domain: 1 + (seq+1)%domains, Seq: seq}) {
			t.Fatal(id, e)
		}
	}
}

// P11.1: the same Seq in the rows of different domains.
func TestSameSeq(t *testing.T) {
	s, m := revset.New(), model{}
	for d := domains; d >= 1; d-- {
		for _, seq := range []int{7, d, 4000} {
			id := api.ID{Domain: d, Seq: seq}
			if s.Has(id) != m.has(id) {
				t.Fatalf("Has of %v, with %d", id, m)
			}
			if got, want := s.Add(id), m.add(id); got != want {
				t.Fatalf("Add of %v = %v, want %v", id, got, want)
			}
		}
		check(t, "with the same Seqs", s, m)
	}
	if e := s.Add(api.ID{Domain: 3, Seq: 7}); e != api.ErrRevoked || !slices.Equal(s.Row(3), []int{7, 3, 4000}) || !slices.Equal(s.Row(7), []int{7, 4000}) {
		t.Error(e, s.Row(3), s.Row(7))
	}
}

// P11.1: Row of domains and of such as are none.
func TestRow(t *testing.T) {
	for _, m := range models() {
		s := made(t, m)
		for _, d := range places() {
			if got := s.Row(d); !slices.Equal(got, m[d]) {
				t.Errorf("Row(%d) = %d, want %d", d, got, m[d])
			}
		}
		check(t, "made", s, m)
	}
}

// P11.1: vectors of sets, written out; each is normalized.
func TestVector(t *testing.T) {
	for _, x := range []struct {
		m    model
		want []int
	}{
		{model{}, nil}, {model{1: {4}}, []int{1}}, {model{2: {5, 3}}, []int{0, 2}}, {model{1: {1, 2, 3}, 4: {9}}, []int{3, 0, 0, 1}}, {model{16: {1}}, slices.Concat(make([]int, 15), []int{1})}, {model{15: rising(1, most)}, slices.Concat(make([]int, 14), []int{most})},
	} {
		if got := made(t, x.m).Vector(); !slices.Equal(got, x.want) {
			t.Errorf("Vector of %d = %d, want %d", x.m, got, x.want)
		}
	}
	for _, m := range models() {
		if got := made(t, m).Vector(); !slices.Equal(got, m.vector()) || !vector.May(got) {
			t.Errorf("Vector of %d = %d", m, got)
		}
	}
}

// P11.2: what Delta returns, written out.
func TestDeltaExamples(t *testing.T) {
	some := model{1: {8}, 2: {5, 3, 9}, 4: {6, 7}}
	for _, x := range []struct {
		m     model
		known []int
		want  [][]int
	}{
		{model{2: {5, 3}}, []int{0, 1}, [][]int{nil, {3}}}, // the chapter's own
		{model{}, nil, nil}, {model{}, []int{1, 2, 3}, nil}, {model{}, []int{-1}, nil},
		{some, nil, [][]int{{8}, {5, 3, 9}, nil, {6, 7}}}, {some, []int{}, [][]int{{8}, {5, 3, 9}, nil, {6, 7}}}, {some, []int{0, 0, 0, 0, 0}, [][]int{{8}, {5, 3, 9}, nil, {6, 7}}}, {some, []int{-1, -2, 0, math.MinInt}, [][]int{{8}, {5, 3, 9}, nil, {6, 7}}},
		{some, []int{1, 2, 0, 1}, [][]int{nil, {9}, nil, {7}}}, {some, []int{1, 3, 0, 1}, [][]int{nil, nil, nil, {7}}}, {some, []int{0, 1, 0, 2}, [][]int{{8}, {3, 9}}}, {some, []int{0, 3, 0, 9}, [][]int{{8}}}, {some, []int{0, math.MaxInt, 0, 1 << 50}, [][]int{{8}}},
		{some, []int{1, 3, 0, 2}, nil}, {some, []int{9, 9, 9, 9, 9}, nil}, {some, []int{1, 3, 5, 2}, nil}, {some, []int{1, 3, -5, 2, 0, 0}, nil}, {some, []int{1, 1<<32 + 1, 0, 1 << 40}, nil},
		{model{16: {1, 2}}, nil, slices.Concat(make([][]int, 15), [][]int{{1, 2}})}, {model{16: {1, 2}}, slices.Concat(make([]int, 15), []int{1}), slices.Concat(make([][]int, 15), [][]int{{2}})}, {model{16: {1, 2}}, slices.Concat(make([]int, 16), []int{1}), slices.Concat(make([][]int, 15), [][]int{{1, 2}})}, {model{16: {1, 2}}, slices.Repeat([]int{2}, 16), nil}, {model{16: {1, 2}}, slices.Repeat([]int{2}, 15), slices.Concat(make([][]int, 15), [][]int{{1, 2}})},
	} {
		s := made(t, x.m)
		if got := s.Delta(x.known); !sameLists(got, x.want) {
			t.Errorf("Delta(%d) of %d = %d, want %d", x.known, x.m, got, x.want)
		}
		check(t, "after Delta", s, x.m)
	}
}

// P11.2: Delta of many sets by many lists, against the chapter's words.
func TestDelta(t *testing.T) {
	for _, m := range models() {
		s := made(t, m)
		v := m.vector()
		all := append(lists(), v)
		for i := range v {
			for _, n := range []int{-1, 0, 1, v[i] - 1, v[i] + 1} {
				changed := slices.Clone(v)
				changed[i] = n
				all = append(all, changed)
			}
		}
		for _, known := range all {
			got, want := s.Delta(known), m.delta(known)
			if !sameLists(got, want) {
				t.Fatalf("Delta(%d) of %d = %d, want %d", known, m, got, want)
			}
			if n := len(got); n > domains || n > 0 && len(got[n-1]) == 0 {
				t.Fatalf("Delta(%d) of %d = %d, which ends with nothing", known, m, got)
			}
		}
		check(t, "after Delta", s, m)
	}
}

// P11.3: what becomes of a row and a list, written out; for the first domain, one between, and the last one.
func TestMergeExamples(t *testing.T) {
	thirty := rising(101, 30)
	for _, x := range []struct {
		row  []int
		k    int
		list []int
		want []int // the row afterwards
	}{
		// nothing in the list
		{nil, 0, nil, nil}, {nil, 0, []int{}, nil}, {[]int{5, 3}, 0, nil, []int{5, 3}}, {[]int{5, 3}, 1, nil, []int{5, 3}}, {[]int{5, 3}, 2, []int{}, []int{5, 3}}, {[]int{5, 3}, 9, nil, []int{5, 3}}, {[]int{5, 3}, -1, nil, []int{5, 3}},
		// k up to the length of the row, and above it
		{nil, 0, []int{1}, []int{1}}, {nil, -1, []int{1}, []int{1}}, {nil, math.MinInt, []int{1}, []int{1}}, {nil, 1, []int{1}, nil}, {nil, math.MaxInt, []int{1}, nil}, {nil, 1 << 32, []int{1}, nil}, {nil, 1 << 40, []int{1}, nil}, {nil, 1 << 62, []int{1}, nil},
		{[]int{5, 3}, 2, []int{9}, []int{5, 3, 9}}, {[]int{5, 3}, 3, []int{9}, []int{5, 3}}, {[]int{5, 3}, 3, []int{3, 9}, []int{5, 3}}, {[]int{5, 3}, 1<<32 + 2, []int{9}, []int{5, 3}}, {[]int{5, 3}, math.MaxInt, []int{9}, []int{5, 3}}, {[]int{5, 3}, math.MaxInt - 1, []int{9}, []int{5, 3}},
		{[]int{5, 3}, 1, []int{3, 9}, []int{5, 3, 9}}, {[]int{5, 3}, 0, []int{5, 3, 9}, []int{5, 3, 9}}, {[]int{5, 3}, -7, []int{5, 3, 9}, []int{5, 3, 9}}, {[]int{5, 3}, 0, []int{3, 9}, []int{5, 3}}, {[]int{5, 3}, 0, []int{9}, []int{5, 3}}, {[]int{5, 3}, 1, []int{9}, []int{5, 3}},
		// the candidate is the row, a prefix of it, longer, and neither
		{[]int{5, 3}, 0, []int{5, 3}, []int{5, 3}}, {[]int{5, 3}, 1, []int{3}, []int{5, 3}}, {[]int{5, 3, 8}, 0, []int{5}, []int{5, 3, 8}}, {[]int{5, 3, 8}, 0, []int{5, 3}, []int{5, 3, 8}}, {[]int{5, 3, 8}, 1, []int{3}, []int{5, 3, 8}},
		{[]int{5, 3}, 1, []int{4, 9}, []int{5, 3}}, {[]int{5, 3}, 0, []int{3, 5}, []int{5, 3}}, {[]int{5, 3}, 0, []int{3, 5, 9}, []int{5, 3}}, {[]int{5, 3}, 0, []int{5, 4}, []int{5, 3}}, {[]int{5, 3}, 0, []int{4}, []int{5, 3}}, {[]int{5, 3, 8}, 1, []int{8}, []int{5, 3, 8}}, {[]int{5, 3}, 0, []int{1, 2, 4}, []int{5, 3}}, {[]int{5, 3, 8}, 0, []int{5, 3, 7, 8}, []int{5, 3, 8}}, {[]int{5, 3, 8}, 0, []int{5, 2, 8, 9}, []int{5, 3, 8}},
		// out of range
		{nil, 0, []int{0}, nil}, {nil, 0, []int{-1}, nil}, {nil, 0, []int{4001}, nil}, {nil, 0, []int{math.MinInt}, nil}, {nil, 0, []int{math.MaxInt}, nil}, {nil, 0, []int{4000}, []int{4000}}, {nil, 0, []int{1<<32 + 1}, nil}, {nil, 0, []int{1, 0}, nil}, {nil, 0, []int{0, 1}, nil}, {nil, 0, []int{1, 4001, 2}, nil}, {nil, 0, []int{1, 2, 4000, 3999}, []int{1, 2, 4000, 3999}},
		{[]int{5, 3}, 2, []int{0}, []int{5, 3}}, {[]int{5, 3}, 2, []int{9, 4001}, []int{5, 3}}, {[]int{5, 3}, 1, []int{3, 9, -5}, []int{5, 3}}, {[]int{5, 3}, 1, []int{3, 4000, 1}, []int{5, 3, 4000, 1}}, {[]int{5, 3}, 0, []int{5, 3, 0}, []int{5, 3}},
		// one twice
		{nil, 0, []int{1, 1}, nil}, {nil, 0, []int{1, 2, 1}, nil}, {nil, 0, []int{1, 2, 2}, nil}, {nil, 0, []int{1, 2, 3, 4, 5, 3}, nil}, {[]int{5, 3}, 2, []int{9, 9}, []int{5, 3}}, {[]int{5, 3}, 2, []int{5}, []int{5, 3}}, {[]int{5, 3}, 2, []int{3}, []int{5, 3}}, {[]int{5, 3}, 2, []int{9, 3}, []int{5, 3}}, {[]int{5, 3}, 1, []int{5}, []int{5, 3}}, {[]int{5, 3}, 1, []int{3, 5}, []int{5, 3}}, {[]int{5, 3}, 1, []int{3, 9, 9}, []int{5, 3}}, {[]int{5, 3}, 0, []int{5, 3, 5}, []int{5, 3}},
		// as many as there may be, and more
		{nil, 0, rising(1, 31), rising(1, 31)}, {nil, 0, rising(1, 32), rising(1, 32)}, {nil, 0, rising(1, 33), nil}, {nil, 0, rising(1, 4000), nil}, {thirty, 30, []int{1, 2}, slices.Concat(thirty, []int{1, 2})}, {thirty, 30, []int{1, 2, 3}, thirty}, {thirty, 30, rising(1, 32), thirty}, {thirty, 29, []int{130, 1, 2}, slices.Concat(thirty, []int{1, 2})}, {thirty, 29, []int{130, 1, 2, 3}, thirty}, {thirty, 0, rising(101, 32), rising(101, 32)}, {thirty, 0, rising(101, 33), thirty}, {thirty, 1, rising(102, 31), rising(101, 32)}, {thirty, 1, rising(102, 32), thirty},
		{rising(1, 32), 32, []int{33}, rising(1, 32)}, {rising(1, 32), 32, nil, rising(1, 32)}, {rising(1, 32), 31, []int{32}, rising(1, 32)}, {rising(1, 32), 31, []int{32, 33}, rising(1, 32)}, {rising(1, 32), 31, []int{33}, rising(1, 32)}, {rising(1, 32), 33, []int{33}, rising(1, 32)}, {rising(1, 32), 0, rising(1, 32), rising(1, 32)},
	} {
		for _, d := range []int{1, 7, domains} {
			m := model{d: x.row, 3: {2, 1}}
			s := made(t, m)
			known, more := make([]int, d), make([][]int, d)
			known[d-1], more[d-1] = x.k, x.list
			if got := s.Merge(known, more); got != len(x.want)-len(x.row) {
				t.Errorf("Merge of %d, behind %d of %d = %d", x.list, x.k, x.row, got)
			}
			m[d] = x.want
			check(t, "after Merge", s, m)
		}
	}
}

// P11.3: Merge of several lists, each of which is treated alone; how many are added at all.
func TestMergeSeveral(t *testing.T) {
	m := model{1: {4}, 2: {5, 3}, 5: {9}}
	for _, x := range []struct {
		known []int
		more  [][]int
		want  int
		after model
	}{
		{nil, nil, 0, m}, {nil, [][]int{}, 0, m}, {nil, [][]int{nil, {}, nil}, 0, m}, {[]int{1, 2, 3}, nil, 0, m},
		{[]int{1, 2}, [][]int{{7}, {7}}, 2, model{1: {4, 7}, 2: {5, 3, 7}, 5: {9}}},
		{[]int{1, 2}, [][]int{{7}, {0}, {7, 8}, nil, {9, 1}}, 4, model{1: {4, 7}, 2: {5, 3}, 3: {7, 8}, 5: {9, 1}}},
		{[]int{2, 2}, [][]int{{7}, {1, 2, 4}, {7, 7}}, 3, model{1: {4}, 2: {5, 3, 1, 2, 4}, 5: {9}}},
		{[]int{1}, [][]int{{6}, {5}, {6}, {6}, {8}}, 3, model{1: {4, 6}, 2: {5, 3}, 3: {6}, 4: {6}, 5: {9}}},
		{[]int{-1, 1 << 50}, [][]int{{4, 2}, {4}}, 1, model{1: {4, 2}, 2: {5, 3}, 5: {9}}},
		{[]int{0, 0, 1, 1}, [][]int{{4}, {5}, {1}, {1}, {9}, {3}}, 1, model{1: {4}, 2: {5, 3}, 5: {9}, 6: {3}}},
		{nil, [][]int{rising(1, 33), rising(1, 32), rising(1, 32), rising(1, 33), {9, 8}}, 33, model{1: {4}, 2: {5, 3}, 3: rising(1, 32), 5: {9, 8}}},
		{[]int{1, 2, 0, 0, 1}, [][]int{nil, nil, nil, nil, {8, 7, 6}}, 3, model{1: {4}, 2: {5, 3}, 5: {9, 8, 7, 6}}},
	} {
		s := made(t, m)
		if got := s.Merge(x.known, x.more); got != x.want {
			t.Errorf("Merge(%d, %d) = %d, want %d", x.known, x.more, got, x.want)
		}
		check(t, "after Merge", s, x.after)
	}
}

// P11.3: one list for each domain, and lists after the sixteenth, which are ignored; so is what known has there.
func TestMergeManyLists(t *testing.T) {
	for _, size := range []int{1, 15, 16, 17, 18, 33, 1000} {
		s, m := revset.New(), model{}
		more := make([][]int, size)
		for i := range more {
			more[i] = []int{i + 1, i + 2}
			if i < domains {
				m[i+1] = more[i]
			}
		}
		if got, want := s.Merge(nil, more), 2*min(size, domains); got != want {
			t.Errorf("Merge of %d lists = %d, want %d", size, got, want)
		}
		check(t, "after Merge", s, m)
		if got := s.Merge(slices.Repeat([]int{2}, size), slices.Repeat([][]int{{9}}, size)); got != m.merge(slices.Repeat([]int{2}, size), slices.Repeat([][]int{{9}}, size)) {
			t.Errorf("Merge of %d lists more = %d", size, got)
		}
		check(t, "after the second Merge", s, m)
	}
	s := revset.New()
	if got := s.Merge(nil, slices.Concat(make([][]int, 16), [][]int{{1}, {2}})); got != 0 {
		t.Errorf("Merge of lists after the sixteenth = %d", got)
	}
	check(t, "after Merge", s, model{})
}

// P11.3: the number that known states, in lists that are no vectors.
func TestMergeKnown(t *testing.T) {
	for _, m := range models() {
		for i, known := range lists() {
			s, want := made(t, m), m.copied()
			more := make([][]int, domains)
			for d := range more {
				k := min(states(known, d+1), len(m[d+1])) // what would follow it, so that most lists count
				more[d] = slices.Concat(m[d+1][k:], rising(2000+i, i%4))
			}
			added := want.merge(known, more)
			if got := s.Merge(known, more); got != added {
				t.Fatalf("Merge(%d, %d) = %d, want %d", known, more, got, added)
			}
			check(t, "after Merge", s, want)
		}
	}
}

// P11.3: all short rows and lists of few Seqs, against the chapter's words.
func TestMergeAllShort(t *testing.T) {
	var rows, tails [][]int
	grow(nil, []int{1, 2, 3}, 3, func(l []int) {
		if mayRow(l) {
			rows = append(rows, l)
		}
	})
	grow(nil, []int{0, 1, 2, 3, 4, 4001}, 4, func(l []int) { tails = append(tails, l) })
	for _, row := range rows {
		for k := -1; k <= 4; k++ {
			for _, tail := range tails {
				s, m := revset.New(), model{}
				s.Merge(nil, [][]int{nil, row})
				m[2] = row
				want := m.merge([]int{3, k}, [][]int{nil, tail})
				if got := s.Merge([]int{3, k}, [][]int{nil, tail}); got != want || !slices.Equal(s.Row(2), m[2]) {
					t.Fatalf("Merge of %d, behind %d of %d = %d, want %d; %d", tail, k, row, got, want, s.Row(2))
				}
			}
		}
	}
}

// grow hands out l and all lists that go on by at most so many of these.
func grow(l []int, by []int, levels int, each func(l []int)) {
	each(l)
	if levels == 0 {
		return
	}
	for _, n := range by {
		grow(slices.Concat(l, []int{n}), by, levels-1, each)
	}
}

// P11.3: what was merged takes part in all that follows, as what was added does.
func TestAddAfterMerge(t *testing.T) {
	s, m := revset.New(), model{4: {9, 8}}
	s.Merge(nil, [][]int{nil, nil, nil, {9, 8}})
	for _, seq := range []int{8, 9, 7, 7, 0, 4000, 4001} {
		id := api.ID{Domain: 4, Seq: seq}
		if got, want := s.Add(id), m.add(id); got != want {
			t.Errorf("Add of %v = %v, want %v", id, got, want)
		}
	}
	check(t, "after Add", s, m)
	if got := s.Merge([]int{0, 0, 0, 3}, [][]int{nil, nil, nil, rising(100, 28)}); got != 0 || s.Merge([]int{0, 0, 0, 4}, [][]int{nil, nil, nil, rising(100, 28)}) != 28 {
		t.Error(got, s.Row(4))
	}
	if e := s.Add(api.ID{Domain: 4, Seq: 1}); e != api.ErrFull {
		t.Error(e)
	}
}

// randomMerge returns arguments of Merge that go on, go back, or go wrong; always the same ones for the same r.
func randomMerge(r *rand.Rand, m model) ([]int, [][]int) {
	known, more := make([]int, r.Intn(19)), make([][]int, r.Intn(19))
	for i := range known {
		known[i] = r.Intn(len(m[i+1])+3) - 1
	}
	for i := range more {
		row := m[i+1]
		k := min(states(known, i+1), len(row))
		switch r.Intn(5) {
		case 0: // it goes on
			more[i] = slices.Concat(row[k:], r.Perm(greatest)[:r.Intn(4)])
		case 1: // it ends ahead of the row's end
			more[i] = slices.Clone(row[k : k+r.Intn(len(row)-k+1)])
		case 2: // one is another one
			more[i] = slices.Concat(row[k:], []int{r.Intn(greatest+2) - 1})
			more[i][r.Intn(len(more[i]))] = seqs()[r.Intn(len(seqs()))]
		case 3:
			more[i] = rising(r.Intn(greatest), r.Intn(36))
		}
	}
	return known, more
}

// P11.4: rows only grow, over long scripts of Add and Merge; what they become is as the chapter's words have it.
func TestGrowth(t *testing.T) {
	for seed := range int64(25) {
		r := rand.New(rand.NewSource(seed))
		s, m := revset.New(), model{}
		for step := range 600 {
			before := m.copied()
			if r.Intn(3) > 0 {
				id := api.ID{Domain: r.Intn(18), Seq: r.Intn(60)}
				if r.Intn(8) == 0 {
					id = api.ID{Domain: places()[r.Intn(len(places()))], Seq: seqs()[r.Intn(len(seqs()))]}
				}
				if got, want := s.Add(id), m.add(id); got != want {
					t.Fatalf("Add of %v at step %d = %v, want %v", id, step, got, want)
				}
			} else {
				known, more := randomMerge(r, m)
				want := m.merge(known, more)
				if got := s.Merge(known, more); got != want {
					t.Fatalf("Merge(%d, %d) at step %d = %d, want %d", known, more, step, got, want)
				}
			}
			for d := 1; d <= domains; d++ {
				if row := s.Row(d); !prefix(before[d], row) || !mayRow(row) {
					t.Fatalf("the row %d of domain %d was %d", row, d, before[d])
				}
			}
			check(t, "after a step", s, m)
		}
	}
}

// tryJoin tells if P11.5 does not hold for two sets, in both directions.
func tryJoin(t *testing.T, a, b model) {
	t.Helper()
	longer, join := model{}, vector.Join(a.vector(), b.vector())
	differ := 0
	for d := 1; d <= domains; d++ {
		longer[d] = a[d]
		if len(b[d]) > len(a[d]) {
			longer[d] = b[d]
		}
		differ += max(len(b[d])-len(a[d]), 0)
	}
	first, second := made(t, a), made(t, b)
	v := first.Vector()
	delta := second.Delta(v)
	other := first.Delta(second.Vector())
	back := second.Merge(second.Vector(), other)
	if got := first.Merge(v, delta); got != differ {
		t.Fatalf("of %d, %d has %d more, not %d", b, a, got, differ)
	}
	for _, s := range []*revset.Set{first, second} {
		check(t, "joined", s, longer)
		if !slices.Equal(s.Vector(), join) {
			t.Fatalf("the vector of %d and %d joined is %d, want %d", a, b, s.Vector(), join)
		}
		for _, again := range []int{s.Merge(v, delta), s.Merge(b.vector(), other), s.Merge(s.Vector(), delta), s.Merge(nil, second.Delta(nil)), len(s.Delta(join)), len(first.Delta(s.Vector()))} {
			if again != 0 {
				t.Fatalf("merged again, %d and %d add %d", a, b, again)
			}
		}
		check(t, "joined again", s, longer)
	}
	if want := len(slices.Concat(other...)); back != want {
		t.Fatalf("of %d, %d has %d more, not %d", a, b, back, want)
	}
}

// P11.5: all pairs of sets with short rows of three domains, one row a prefix of the other one.
func TestJoinAllShort(t *testing.T) {
	row := []int{8, 3, 4000}
	places := []int{1, 2, domains}
	grow(nil, []int{0, 1, 2, 3}, 6, func(l []int) {
		if len(l) != 6 {
			return
		}
		a, b := model{}, model{}
		for i, d := range places {
			a[d], b[d] = row[:l[i]], row[:l[i+3]]
		}
		tryJoin(t, a, b)
	})
}

// P11.5: pairs of sets with rows of all lengths.
func TestJoinMany(t *testing.T) {
	for seed := range int64(1500) {
		r := rand.New(rand.NewSource(seed))
		a, b := model{}, model{}
		for d := 1; d <= domains; d++ {
			row := r.Perm(greatest)[:r.Intn(most+1)]
			for i := range row {
				row[i]++
			}
			switch r.Intn(5) {
			case 0: // one has it alone
				a[d] = row
			case 1:
				b[d] = row
			case 2:
				a[d], b[d] = row, row
			case 3:
				a[d], b[d] = row, row[:r.Intn(len(row)+1)]
			case 4:
				a[d], b[d] = row[:r.Intn(len(row)+1)], row
			}
		}
		tryJoin(t, a, b)
	}
}

// P11.5: what was asked for by an earlier vector is merged after the set has grown meanwhile, in any order, and twice.
func TestJoinLate(t *testing.T) {
	for seed := range int64(300) {
		r := rand.New(rand.NewSource(seed))
		whole, m := revset.New(), model{}
		part := revset.New()
		type packet struct {
			known []int
			more  [][]int
		}
		var packets []packet
		for range 40 {
			id := api.ID{Domain: 1 + r.Intn(domains), Seq: 1 + r.Intn(200)}
			whole.Add(id)
			m.add(id)
			if r.Intn(3) == 0 {
				v := part.Vector()
				packets = append(packets, packet{v, whole.Delta(v)})
			}
			if len(packets) > 0 && r.Intn(4) == 0 {
				p := packets[r.Intn(len(packets))]
				part.Merge(p.known, p.more)
			}
			for d := 1; d <= domains; d++ {
				if !prefix(part.Row(d), m[d]) {
					t.Fatalf("%d is no prefix of %d", part.Row(d), m[d])
				}
			}
		}
		v := part.Vector()
		part.Merge(v, whole.Delta(v))
		check(t, "at the end", part, m)
		for _, p := range packets {
			if n := part.Merge(p.known, p.more); n != 0 {
				t.Fatalf("merged late, %d add %d", p.more, n)
			}
		}
		check(t, "after all packets", part, m)
	}
}

// P11.1: a copy has the same, and the two do not know of each other.
func TestCopy(t *testing.T) {
	for _, m := range models() {
		s := made(t, m)
		c := s.Copy()
		check(t, "the copy", c, m)
		left, right := m.copied(), m.copied()
		for d := 1; d <= domains; d++ { // both go on by turns, each by other Seqs
			for i := range 3 {
				a, b := api.ID{Domain: d, Seq: 3000 + i}, api.ID{Domain: d, Seq: 3500 + i}
				if got, want := s.Add(a), left.add(a); got != want {
					t.Fatalf("Add of %v = %v, want %v", a, got, want)
				}
				if got, want := c.Add(b), right.add(b); got != want {
					t.Fatalf("Add of %v = %v, want %v", b, got, want)
				}
			}
		}
		check(t, "the original", s, left)
		check(t, "the copy", c, right)
		check(t, "the copy's copy", c.Copy(), right)
	}
}

// P11.1: copies of each length of a row, whose memory has or has not room left, with Merge and Add on both sides.
func TestCopyGrows(t *testing.T) {
	for size := range most - 1 {
		for _, merged := range []bool{false, true} {
			s, m := revset.New(), model{6: rising(1, size)}
			if merged {
				s.Merge(nil, slices.Concat(make([][]int, 5), [][]int{m[6]}))
			} else {
				s = made(t, m)
			}
			copies := []*revset.Set{s, s.Copy(), s.Copy()}
			copies = append(copies, copies[2].Copy())
			for i, c := range copies {
				if i%2 == 0 {
					c.Add(api.ID{Domain: 6, Seq: 500 + i})
				} else {
					c.Merge([]int{0, 0, 0, 0, 0, size}, slices.Concat(make([][]int, 5), [][]int{{500 + i}}))
				}
			}
			for i, c := range copies {
				check(t, "a copy", c, model{6: slices.Concat(m[6], []int{500 + i})})
			}
		}
	}
}

// R4: what is handed in is neither changed nor retained, not even its spare room.
func TestArgumentsStay(t *testing.T) {
	for seed := range int64(400) {
		r := rand.New(rand.NewSource(seed))
		m := models()[int(seed)%len(models())].copied()
		s := made(t, m)
		known, more := randomMerge(r, m)
		roomyKnown := slices.Concat([]int{-8, 8}, known, slices.Repeat([]int{5}, 20))
		inner := make([][]int, len(more))
		outer := slices.Concat([][]int{{1}, {2}}, more, slices.Repeat([][]int{{3, 4}}, 20))
		for i, list := range more {
			inner[i] = slices.Concat([]int{-9, 9}, list, slices.Repeat([]int{6}, 40))
			outer[i+2] = inner[i][2 : 2+len(list)]
		}
		before := func() [][]int {
			all := [][]int{slices.Clone(roomyKnown)}
			for _, list := range inner {
				all = append(all, slices.Clone(list))
			}
			for _, list := range outer {
				all = append(all, slices.Clone(list))
			}
			return all
		}
		want := before()
		asked, merged := roomyKnown[2:2+len(known)], outer[2:2+len(more)]
		if got := s.Delta(asked); !sameLists(got, m.delta(known)) {
			t.Fatalf("Delta(%d) = %d", known, got)
		}
		if got, want := s.Merge(asked, merged), m.merge(known, more); got != want {
			t.Fatalf("Merge(%d, %d) = %d, want %d", known, more, got, want)
		}
		for d := 1; d <= domains; d++ { // the rows go on, but not in the memory of the arguments
			id := api.ID{Domain: d, Seq: 3999}
			s.Add(id)
			m.add(id)
		}
		if !sameLists(before(), want) {
			t.Fatalf("%d or %d was changed", known, more)
		}
		overwrite(roomyKnown)
		for _, list := range inner {
			overwrite(list)
		}
		clear(outer)
		check(t, "after the arguments were overwritten", s, m)
	}
}

// overwrite writes to all of l, its spare room included.
func overwrite(l []int) {
	l = l[:cap(l)]
	for i := range l {
		l[i] = -99 - i
	}
}

// R4: what is returned shares no memory, spare room included, with the set or with what was returned before.
func TestResultsAreNew(t *testing.T) {
	for _, m := range models() {
		for _, known := range slices.Concat(lists()[:20], [][]int{slices.Repeat([]int{1}, 16), rising(0, 16)}) {
			s := made(t, m)
			first, second := s.Delta(known), s.Delta(known)
			for i := range first {
				overwrite(first[i])
				for j := range first[i+1:] {
					if !slices.Equal(first[i+1+j], second[i+1+j]) {
						t.Fatalf("the lists %d and %d share memory", i, i+1+j)
					}
				}
			}
			clear(first[:cap(first)])
			if !sameLists(second, m.delta(known)) {
				t.Fatalf("Delta shares memory with what it returned before: %d", second)
			}
			for d := 0; d <= domains+1; d++ {
				row, other := s.Row(d), s.Row(d)
				overwrite(row)
				if !slices.Equal(other, m[d]) {
					t.Fatalf("Row(%d) shares memory with what it returned before: %d", d, other)
				}
			}
			v, w := s.Vector(), s.Vector()
			overwrite(v)
			if !slices.Equal(w, m.vector()) {
				t.Fatalf("Vector shares memory with what it returned before: %d", w)
			}
			check(t, "after what was returned was overwritten", s, m)
		}
	}
}

// R4: what was returned stays as it is while the set grows.
func TestResultsStay(t *testing.T) {
	for size := range most {
		s, m := revset.New(), model{3: rising(1, size)}
		s.Merge(nil, [][]int{nil, nil, m[3]})
		row, delta, v := s.Row(3), s.Delta([]int{0, 0, 1}), s.Vector()
		roomy := row[:cap(row)]
		room := slices.Clone(roomy)
		if e := s.Add(api.ID{Domain: 3, Seq: 4000}); e != api.OK {
			t.Fatal(e)
		}
		s.Merge([]int{0, 0, size + 1}, [][]int{{7}, nil, {3000, 3001}})
		if !slices.Equal(roomy, room) || !sameLists(delta, m.delta([]int{0, 0, 1})) || !slices.Equal(v, m.vector()) {
			t.Errorf("%d, %d or %d has changed", roomy, delta, v)
		}
	}
}

// R4: nil and empty lists are equivalent, on both levels.
func TestNilAndEmpty(t *testing.T) {
	for _, m := range models() {
		s := made(t, m)
		if !sameLists(s.Delta(nil), s.Delta([]int{})) {
			t.Error(s.Delta(nil), s.Delta([]int{}))
		}
		for _, more := range [][][]int{nil, {}, {nil}, {{}}, {nil, {}}, make([][]int, 40), slices.Repeat([][]int{{}}, 16)} {
			for _, known := range [][]int{nil, {}, m.vector(), {math.MaxInt}} {
				if n := s.Merge(known, more); n != 0 {
					t.Errorf("Merge(%d, %d) = %d", known, more, n)
				}
			}
		}
		check(t, "after Merge of nothing", s, m)
	}
}

// R1: no call panics or fails to end with very long lists.
func TestLongLists(t *testing.T) {
	m := model{1: {5, 3}, 16: {7}}
	s := made(t, m)
	for _, n := range []int{math.MinInt, 0, 1, 3, math.MaxInt} {
		long := slices.Repeat([]int{n}, 1<<22)
		if got := s.Delta(long); !sameLists(got, m.delta(long)) {
			t.Errorf("Delta of many %d = %d", n, got)
		}
		for _, known := range [][]int{nil, long, {1}} {
			if got := s.Merge(known, slices.Repeat([][]int{long}, 1<<12)); got != 0 {
				t.Errorf("Merge of many %d = %d", n, got)
			}
		}
	}
	if got := s.Merge(nil, make([][]int, 1<<22)); got != 0 {
		t.Error(got)
	}
	if got := s.Merge(nil, [][]int{rising(1, 1<<22)}); got != 0 {
		t.Error(got)
	}
	check(t, "after long lists", s, m)
}

// R5: lists that are equal count alike, whatever their capacity, and whichever memory they are in.
func TestCapacityDoesNotCount(t *testing.T) {
	for seed := range int64(300) {
		r := rand.New(rand.NewSource(seed))
		m := models()[int(seed)%len(models())]
		known, more := randomMerge(r, m)
		tight, roomy := make([][]int, len(more)), make([][]int, len(more), len(more)+7)
		for i, list := range more {
			tight[i] = slices.Clip(slices.Clone(list))
			roomy[i] = slices.Concat(list, rising(1, 50))[:len(list)]
		}
		a, b := made(t, m), made(t, m)
		if x, y := a.Merge(slices.Clip(slices.Clone(known)), tight), b.Merge(slices.Concat(known, rising(1, 20))[:len(known)], roomy); x != y || !sameLists(a.Delta(nil), b.Delta(nil)) {
			t.Fatalf("Merge(%d, %d) = %d and %d", known, more, x, y)
		}
	}
}

// answers are those of a long script.
func answers() []int {
	var all []int
	r := rand.New(rand.NewSource(11))
	s, m := revset.New(), model{}
	for range 300 {
		id := api.ID{Domain: r.Intn(18), Seq: r.Intn(50)}
		m.add(id)
		all = append(all, int(s.Add(id)))
		known, more := randomMerge(r, m)
		m.merge(known, more)
		all = append(all, s.Merge(known, more))
		all = append(all, s.Vector()...)
		for _, list := range s.Delta(known) {
			all = append(append(all, len(list)), list...)
		}
		all = append(all, s.Copy().Row(r.Intn(18))...)
	}
	return all
}

// R5: the same calls answer the same each time, from whichever goroutine.
func TestAgain(t *testing.T) {
	want := answers()
	var group sync.WaitGroup
	for range 8 {
		group.Go(func() {
			for range 3 {
				if !slices.Equal(answers(), want) {
					t.Error("other answers")
				}
			}
		})
	}
	group.Wait()
}
