package lease_test

import (
	"maps"
	"math"
	"slices"
	"strconv"
	"testing"

	"livery/api"
	"livery/cred"
	"livery/lease"
)

const (
	domains  = 16      // MaxDomains
	most     = 24      // MaxCreds
	greatest = 4000    // MaxSeq
	end      = 1 << 40 // MaxTick
	term     = 56      // Lease
	recent   = 48      // Fresh
)

// said is a call of Learn, or else of Hear.
type said struct {
	learn         bool
	domain, asked int
	l             []api.Cred
}

// tell makes the call.
func (s said) tell(b *lease.Book) api.Errno {
	if s.learn {
		return b.Learn(s.domain, s.l, s.asked)
	}
	return b.Hear(s.domain, s.asked)
}

// model is a book as the chapter's words have it: the calls that returned OK, in their order.
type model struct {
	own int
	all []said
}

// with is the model behind one more call, and what P13.1 says that this returns.
func (m model) with(s said) (model, api.Errno) {
	stamp, found := m.stamp(s.domain)
	switch {
	case s.domain == m.own || s.domain < 1 || s.domain > domains:
		return m, api.ErrArg
	case s.asked < 0 || s.asked > end:
		return m, api.ErrArg
	case s.learn && found && stamp > s.asked:
		return m, api.ErrArg
	case s.learn && len(effective(s.l, s.domain)) > most:
		return m, api.ErrFull
	}
	s.l = slices.Clone(s.l)
	return model{m.own, append(m.all[:len(m.all):len(m.all)], s)}, api.OK
}

// stamp is the domain's stamp, if it has one.
func (m model) stamp(domain int) (int, bool) {
	stamp, found := 0, false
	for _, s := range m.all {
		if s.domain == domain && (s.learn || !found || stamp < s.asked) {
			stamp, found = s.asked, true
		}
	}
	return stamp, found
}

// last is the last answer with the domain's credentials; none has no domain.
func (m model) last(domain int) said {
	for _, s := range slices.Backward(m.all) {
		if s.learn && s.domain == domain {
			return s
		}
	}
	return said{}
}

// held is Held, as P13.2 has it.
func (m model) held(now int) []api.Held {
	var all []api.Held
	for d := 1; d <= domains; d++ {
		s := m.last(d)
		until := min(s.asked+term, end)
		if !s.learn || over(now, until) {
			continue
		}
		for _, c := range effective(s.l, d) {
			all = append(all, api.Held{Cred: c, Until: until})
		}
	}
	return all
}

// until is Until, as P13.2 has it, where these are held.
func (m model) until(ids []api.ID, held []api.Held) (int, api.Errno) {
	least := end
	for _, id := range ids {
		if id.Domain == m.own {
			continue
		}
		i := slices.IndexFunc(held, func(h api.Held) bool { return h.Cred.ID == id })
		if i < 0 {
			return 0, api.ErrNone
		}
		least = min(least, held[i].Until)
	}
	return least, api.OK
}

// fresh is Fresh, as P13.3 has it.
func (m model) fresh(domain, now int) bool {
	if domain == m.own {
		return true
	}
	stamp, found := m.stamp(domain)
	return found && !over(now, min(stamp+recent, end))
}

// stale is Stale, as P13.3 has it.
func (m model) stale(ids []api.ID, now int) bool {
	for _, id := range ids {
		if !m.fresh(id.Domain, now) {
			return true
		}
	}
	return false
}

// over reports whether what lasts until a tick is over at now, as chapter 9 has it.
func over(now, until int) bool {
	now = min(max(now, 0), end)
	return now >= until || now == end
}

// effective are the effective ones of l that belong to the domain, as chapter 5 has it.
func effective(l []api.Cred, domain int) []api.Cred {
	first := map[int]api.Cred{}
	for _, c := range slices.Backward(l) {
		if c.ID.Domain == domain && cred.May(c) {
			first[c.ID.Seq] = c
		}
	}
	var all []api.Cred
	for _, seq := range slices.Sorted(maps.Keys(first)) {
		all = append(all, first[seq])
	}
	return all
}

// member is a credential, whose Who depends on a number.
func member(domain, seq, n int) api.Cred {
	return api.Cred{ID: api.ID{Domain: domain, Seq: seq}, Name: "a", Kind: api.Member, Who: "w" + strconv.Itoa(n)}
}

// members are credentials of the domain with these Seqs.
func members(domain int, seqs ...int) []api.Cred {
	var l []api.Cred
	for i, seq := range seqs {
		l = append(l, member(domain, seq, i))
	}
	return l
}

// rising are so many numbers from first on.
func rising(first, size int) []int {
	l := make([]int, size)
	for i := range l {
		l[i] = first + i
	}
	return l
}

// id is an ID.
func id(domain, seq int) api.ID {
	return api.ID{Domain: domain, Seq: seq}
}

// idsOf are the IDs of what is held.
func idsOf(l []api.Held) []api.ID {
	var ids []api.ID
	for _, h := range l {
		ids = append(ids, h.Cred.ID)
	}
	return ids
}

// kinds are valid credentials of the domain, of each kind, with the Seqs from first on.
func kinds(domain, first int) []api.Cred {
	a, b, name := api.Role{Owner: "d1", Name: "a"}, api.Role{Owner: "d16", Name: "b9"}, api.Role{Name: "c"}
	return []api.Cred{
		{ID: id(domain, first), Name: "a", Kind: api.Member, Who: "ann"},
		{ID: id(domain, first+1), Name: "b", Kind: api.Include, A: a},
		{ID: id(domain, first+2), Name: "abcdefgh", Kind: api.Link, A: name, B: name},
		{ID: id(domain, first+3), Name: "z0", Kind: api.Both, A: a, B: b},
	}
}

// invalid are credentials of the domain that are not valid, each with the Seq, unless that is what is wrong.
func invalid(domain, seq int) []api.Cred {
	var l []api.Cred
	for _, n := range []int{math.MinInt, -1, 0, greatest + 1, math.MaxInt} {
		l = append(l, member(domain, n, 1))
	}
	for _, kind := range []int{math.MinInt, -1, 0, 2, 3, 4, 5, math.MaxInt} {
		c := member(domain, seq, 1)
		c.Kind = kind
		l = append(l, c)
	}
	for _, name := range []string{"", "A", "1a", "abcdefghi", "a.", "\xff"} {
		c, d := member(domain, seq, 1), member(domain, seq, 1)
		c.Name, d.Who = name, name
		l = append(l, c, d)
	}
	for _, c := range kinds(domain, seq) {
		c.ID.Seq = seq
		x, y := c, c
		x.A.Owner += "x"
		y.B.Name += "."
		l = append(l, x, y)
	}
	return append(l, api.Cred{ID: id(domain, seq)})
}

// places are domains, and such as are none, about the ends.
func places() []int {
	l := []int{math.MinInt, math.MinInt + 1, -1 << 32, -17, -16, -2, -1, 17, 18, 32, 33, 256, 257, 1<<32 + 1, 1<<32 + 2, 1<<32 + 16, 1 << 62, math.MaxInt - 1, math.MaxInt}
	return append(l, rising(0, domains+1)...)
}

// numbers are ticks, and such as are none, about the ends.
func numbers() []int {
	return []int{math.MinInt, math.MinInt + 1, -1 << 41, -end, -1 << 32, -term - 1, -term, -recent, -1, 0, 1, 2, recent - 1, recent, term - 1, term, term + 1, 1 << 20, 1 << 32,
		end - term - 1, end - term, end - term + 1, end - recent - 1, end - recent, end - recent + 1, end - 1, end, end + 1, end + term, 1 << 41, 1 << 62, math.MaxInt - term, math.MaxInt - 1, math.MaxInt}
}

// about are the ticks at which something that is told of a model could change, and others.
func (m model) about() []int {
	l := []int{math.MinInt, -1, 0, 1, end - 1, end, end + 1, math.MaxInt}
	for _, s := range m.all {
		for _, n := range []int{s.asked, s.asked + recent, s.asked + term} {
			l = append(l, n-1, n, n+1)
		}
	}
	slices.Sort(l)
	return slices.Compact(l)
}

// check tells if a book is not as m, by all that can be asked of it.
func check(t *testing.T, when string, b *lease.Book, m model) {
	t.Helper()
	for _, now := range m.about() {
		checkAt(t, when, b, m, now)
	}
}

// checkAt tells if a book is not as m at now.
func checkAt(t *testing.T, when string, b *lease.Book, m model, now int) {
	t.Helper()
	held := m.held(now)
	if got := b.Held(now); !slices.Equal(got, held) {
		t.Fatalf("%s: Held(%d) = %+v, want %+v", when, now, got, held)
	}
	asks := [][]api.ID{nil, idsOf(held)}
	for _, x := range held {
		asks = append(asks, []api.ID{x.Cred.ID})
	}
	for _, s := range m.all {
		for _, c := range s.l {
			asks = append(asks, []api.ID{c.ID})
		}
	}
	for d := -1; d <= domains+2; d++ {
		if got, want := b.Fresh(d, now), m.fresh(d, now); got != want {
			t.Fatalf("%s: Fresh(%d, %d) = %v", when, d, now, got)
		}
		asks = append(asks, []api.ID{id(d, 3999)}, []api.ID{id(m.own, d), id(d, 1)}, append(idsOf(held), id(d, 1)))
	}
	for _, ids := range asks {
		n, e := b.Until(ids, now)
		if want, wrong := m.until(ids, held); n != want || e != wrong {
			t.Fatalf("%s: Until(%v, %d) = %d, %v, want %d, %v", when, ids, now, n, e, want, wrong)
		}
		if got, want := b.Stale(ids, now), m.stale(ids, now); got != want {
			t.Fatalf("%s: Stale(%v, %d) = %v", when, ids, now, got)
		}
	}
}

// made returns a book of the domain own behind these calls, which all return OK, and its model.
func made(t *testing.T, own int, calls ...said) (*lease.Book, model) {
	t.Helper()
	b, m := lease.New(own), model{own: own}
	for _, s := range calls {
		var want api.Errno
		if m, want = m.with(s); want != api.OK || s.tell(b) != want {
			t.Fatalf("%+v can't be said", s)
		}
	}
	return b, m
}

// try makes a call, of a book that is as m, and tells if it doesn't return what it should; it returns the model behind it.
func try(t *testing.T, b *lease.Book, m model, s said) model {
	t.Helper()
	next, want := m.with(s)
	if got := s.tell(b); got != want {
		t.Fatalf("%+v returns %v, want %v, behind %+v", s, got, want, m)
	}
	return next
}

// hear and learn are calls.
func hear(domain, asked int) said {
	return said{domain: domain, asked: asked}
}

func learn(domain int, l []api.Cred, asked int) said {
	return said{true, domain, asked, l}
}

// The chapter's numbers are those of api.
func TestLimits(t *testing.T) {
	if api.MaxDomains != domains || api.MaxCreds != most || api.MaxSeq != greatest || api.MaxTick != end || api.Lease != term || api.Fresh != recent {
		t.Error(api.MaxDomains, api.MaxCreds, api.MaxSeq, api.MaxTick, api.Lease, api.Fresh)
	}
}

// P13.1 to P13.3: the chapter's examples.
func TestExamples(t *testing.T) {
	b := lease.New(1)
	c := api.Cred{ID: id(2, 1), Name: "a", Kind: api.Member, Who: "ann"}
	if e := b.Learn(2, []api.Cred{c}, 10); e != api.OK {
		t.Fatal(e)
	}
	if e := b.Learn(2, nil, 9); e != api.ErrArg {
		t.Errorf("Learn, asked at 9 behind one asked at 10: %v", e)
	}
	if got := b.Held(65); !slices.Equal(got, []api.Held{{Cred: c, Until: 66}}) {
		t.Errorf("Held(65) = %+v", got)
	}
	if got := b.Held(66); len(got) != 0 {
		t.Errorf("Held(66) = %+v", got)
	}
	if !b.Fresh(2, 57) || b.Fresh(2, 58) {
		t.Error(b.Fresh(2, 57), b.Fresh(2, 58))
	}
	if n, e := b.Until([]api.ID{id(1, 9), id(2, 1)}, 20); n != 66 || e != api.OK {
		t.Errorf("Until at 20 = %d, %v", n, e)
	}
	if n, e := b.Until([]api.ID{id(2, 1)}, 66); n != 0 || e != api.ErrNone {
		t.Errorf("Until at 66 = %d, %v", n, e)
	}
}

// P13.1: New of domains, and of what is none; in a new book nothing is held, and only its own domain is fresh.
func TestNew(t *testing.T) {
	for _, own := range places() {
		b := lease.New(own)
		if (b != nil) != (own >= 1 && own <= domains) {
			t.Errorf("New(%d) = %v", own, b)
		}
		if b == nil {
			continue
		}
		for _, now := range numbers() {
			if got := b.Held(now); len(got) != 0 {
				t.Errorf("Held(%d) = %v", now, got)
			}
			for _, d := range places() {
				if got := b.Fresh(d, now); got != (d == own) {
					t.Errorf("New(%d): Fresh(%d, %d) = %v", own, d, now, got)
				}
			}
			checkAt(t, "new", b, model{own: own}, now)
		}
	}
}

// P13.1: Hear and Learn of each domain and of what is none, with each tick and what is none, by each book.
func TestDomainsAndTicks(t *testing.T) {
	for own := 1; own <= domains; own++ {
		for _, d := range places() {
			for _, asked := range numbers() {
				want := api.OK
				if d < 1 || d > domains || d == own || asked < 0 || asked > end {
					want = api.ErrArg
				}
				for _, s := range []said{hear(d, asked), learn(d, nil, asked), learn(d, []api.Cred{member(d, 1, 1)}, asked)} {
					b := lease.New(own)
					if got := s.tell(b); got != want {
						t.Fatalf("New(%d): %+v returns %v, want %v", own, s, got, want)
					}
					m, _ := model{own: own}.with(s)
					checkAt(t, "behind one call", b, m, asked)
					checkAt(t, "behind one call", b, m, 0)
				}
			}
		}
	}
}

// P13.1: what is said of one domain changes nothing of the others, and an error changes nothing.
func TestOthersStay(t *testing.T) {
	for _, own := range []int{1, 2, 9, 16} {
		var calls []said
		for d := 1; d <= domains; d++ {
			if d != own && d%5 != 0 {
				calls = append(calls, learn(d, members(d, d, 1, 100+d), 200+7*d))
			}
		}
		for _, d := range places() {
			b, m := made(t, own, calls...)
			for _, asked := range []int{-1, 0, 199 + 7*d, 200 + 7*d, 201 + 7*d, end, end + 1} {
				m = try(t, b, m, hear(d, asked))
				m = try(t, b, m, learn(d, members(d, 3, 2), asked))
				for _, now := range []int{0, 250, 290, 330, end - 1} { // all, some and none are held and fresh
					checkAt(t, "behind "+strconv.Itoa(d), b, m, now)
				}
			}
		}
	}
}

// P13.1: all sequences of three calls for one domain, with smaller, equal and greater ticks, and stamps that are the first and the last tick.
func TestStamps(t *testing.T) {
	var calls []said
	for _, asked := range []int{-1, 0, 1, 9, 10, end - 1, end, end + 1} {
		calls = append(calls, hear(2, asked), learn(2, members(2, 1), asked))
	}
	count := 0
	var grow func(left int, before []said)
	grow = func(left int, before []said) {
		b, m := lease.New(1), model{own: 1}
		for _, s := range before {
			m = try(t, b, m, s)
		}
		check(t, "behind a sequence", b, m)
		count++
		for _, s := range calls {
			if left > 0 {
				grow(left-1, append(before[:len(before):len(before)], s))
			}
		}
	}
	grow(3, nil)
	if count != 1+16+256+4096 {
		t.Error(count)
	}
}

// P13.1: what Hear and Learn make of a stamp, spelt out.
func TestStampExamples(t *testing.T) {
	one := members(2, 1)
	for i, x := range []struct {
		first, second said
		want          api.Errno
		lasts         int // the last tick at which the domain is fresh
	}{
		{hear(2, 30), hear(2, 29), api.OK, 77}, {hear(2, 30), hear(2, 30), api.OK, 77}, {hear(2, 30), hear(2, 31), api.OK, 78}, {hear(2, 30), hear(2, 0), api.OK, 77},
		{hear(2, 30), learn(2, one, 29), api.ErrArg, 77}, {hear(2, 30), learn(2, one, 30), api.OK, 77}, {hear(2, 30), learn(2, one, 31), api.OK, 78},
		{learn(2, one, 30), hear(2, 29), api.OK, 77}, {learn(2, one, 30), hear(2, 30), api.OK, 77}, {learn(2, one, 30), hear(2, 31), api.OK, 78},
		{learn(2, one, 30), learn(2, nil, 29), api.ErrArg, 77}, {learn(2, one, 30), learn(2, nil, 30), api.OK, 77}, {learn(2, one, 30), learn(2, nil, 31), api.OK, 78},
		{hear(2, 0), learn(2, one, 0), api.OK, 47}, {learn(2, one, 0), learn(2, nil, 0), api.OK, 47}, {hear(2, 1), learn(2, one, 0), api.ErrArg, 48},
		{hear(2, 30), hear(3, 60), api.OK, 77}, {hear(2, 30), learn(3, one, 60), api.OK, 77}, {hear(2, 30), hear(1, 60), api.ErrArg, 77}, {hear(2, 30), learn(1, one, 60), api.ErrArg, 77},
		{hear(2, end), learn(2, one, end-1), api.ErrArg, end - 1}, {hear(2, end), learn(2, one, end), api.OK, end - 1}, {hear(2, end), hear(2, end+1), api.ErrArg, end - 1}, {hear(2, 30), hear(2, end+1), api.ErrArg, 77}, {hear(2, 30), hear(2, -1), api.ErrArg, 77},
	} {
		b := lease.New(1)
		if e := x.first.tell(b); e != api.OK {
			t.Fatal(i, e)
		}
		if e := x.second.tell(b); e != x.want || !b.Fresh(2, x.lasts) || b.Fresh(2, x.lasts+1) {
			t.Errorf("%d: %v, %v, %v", i, e, b.Fresh(2, x.lasts), b.Fresh(2, x.lasts+1))
		}
	}
}

// P13.1: a later Hear does not make a lease longer.
func TestHearDoesNotLengthen(t *testing.T) {
	b, m := made(t, 1, learn(2, members(2, 5, 4), 10), hear(2, 60))
	check(t, "behind Hear", b, m)
	if n, e := b.Until([]api.ID{id(2, 4)}, 65); n != 66 || e != api.OK || len(b.Held(65)) != 2 || len(b.Held(66)) != 0 {
		t.Error(n, e, b.Held(65), b.Held(66))
	}
}

// P13.1: the first error of those that apply; each changes nothing, neither what is held nor the stamp.
func TestLearnErrors(t *testing.T) {
	many := func(d int) []api.Cred { return members(d, rising(1, most+1)...) }
	before := []said{learn(2, members(2, 7, 8), 100), hear(3, 100)}
	for i, x := range []struct {
		s    said
		want api.Errno
	}{
		{learn(1, many(1), 200), api.ErrArg}, {learn(1, many(1), -1), api.ErrArg}, {learn(0, many(0), 200), api.ErrArg}, {learn(17, many(17), 200), api.ErrArg}, {learn(math.MinInt, many(2), 200), api.ErrArg}, {learn(math.MaxInt, many(2), 200), api.ErrArg},
		{learn(2, many(2), -1), api.ErrArg}, {learn(2, many(2), end+1), api.ErrArg}, {learn(2, many(2), math.MinInt), api.ErrArg}, {learn(2, many(2), math.MaxInt), api.ErrArg},
		{learn(2, many(2), 99), api.ErrArg}, {learn(2, many(2), 0), api.ErrArg}, {learn(3, many(3), 99), api.ErrArg},
		{learn(2, many(2), 100), api.ErrFull}, {learn(2, many(2), 101), api.ErrFull}, {learn(2, many(2), end), api.ErrFull}, {learn(3, many(3), 100), api.ErrFull}, {learn(3, many(3), 130), api.ErrFull}, {learn(4, many(4), 0), api.ErrFull}, {learn(4, many(4), end), api.ErrFull},
		{learn(2, members(2, 9), 99), api.ErrArg}, {learn(3, members(3, 9), 99), api.ErrArg}, {learn(2, nil, 99), api.ErrArg},
	} {
		b, m := made(t, 1, before...)
		if got := x.s.tell(b); got != x.want {
			t.Errorf("%d: %v, want %v", i, got, x.want)
		}
		check(t, "behind an error", b, m)
		if e := b.Learn(2, members(2, 1), 100); e != api.OK { // as the stamp is no later than it was
			t.Errorf("%d: %v", i, e)
		}
		if e := b.Learn(4, members(4, 1), 0); e != api.OK {
			t.Errorf("%d: %v", i, e)
		}
	}
}

// lists are what a domain may answer: credentials of its own and of others, valid and not, once and twice, in and out of order.
func lists(d int) map[string][]api.Cred {
	other := d%domains + 1
	twice := append(members(d, 4, 4, 2, 4), member(d, 2, 77))
	wrongFirst := slices.Concat(invalid(d, 6), []api.Cred{member(d, 6, 1), member(d, 6, 2)}, invalid(d, 6))
	full := members(d, rising(1, most)...)
	falling := slices.Clone(full)
	slices.Reverse(falling)
	return map[string][]api.Cred{
		"none":                    nil,
		"one":                     members(d, 1),
		"the last Seq":            members(d, greatest),
		"all kinds":               kinds(d, 11),
		"out of order":            members(d, 9, 1, greatest, 3, 2),
		"the same ID twice":       twice,
		"of others":               members(other, 1, 2, 3),
		"of no domain":            slices.Concat(members(0, 1), members(17, 1), members(-d, 1), members(1<<32+d, 1), members(math.MinInt, 1), members(math.MaxInt, 1)),
		"mixed":                   slices.Concat(members(other, 8, 7), members(d, 8, 7), members(17, 1), members(other, 1), members(d, 1)),
		"not valid":               invalid(d, 5),
		"not valid at first":      wrongFirst,
		"zero":                    make([]api.Cred, 5),
		"full":                    full,
		"full, falling":           falling,
		"full, of late Seqs":      members(d, rising(greatest-most+1, most)...),
		"full, each twice":        slices.Concat(full, falling),
		"full, and not valid":     slices.Concat(invalid(d, 30), full, invalid(d, 30)),
		"full, and of others":     slices.Concat(members(other, rising(1, 40)...), full, members(other, rising(1, 40)...), full),
		"one more":                members(d, rising(1, most+1)...),
		"one more, falling":       append([]api.Cred{member(d, greatest, 1)}, falling...),
		"one more, behind":        slices.Concat(full, full, members(other, 1), invalid(d, 2), members(d, most+1)),
		"all Seqs":                members(d, rising(1, greatest)...),
		"of another, all Seqs":    append(members(other, rising(1, greatest)...), member(d, 1, 1)),
		"one, and so often":       slices.Repeat(members(d, 3), 500),
		"one more, but not valid": slices.Concat(full, invalid(d, most+1)),
	}
}

// P13.1: what is held of lists, spelt out by their Seqs.
func TestLearnExamples(t *testing.T) {
	want := map[string][]int{
		"none": {}, "one": {1}, "the last Seq": {greatest}, "all kinds": {11, 12, 13, 14}, "out of order": {1, 2, 3, 9, greatest}, "the same ID twice": {2, 4}, "of others": {}, "of no domain": {}, "mixed": {1, 7, 8},
		"not valid": {}, "not valid at first": {6}, "zero": {}, "full": rising(1, most), "full, falling": rising(1, most), "full, of late Seqs": rising(greatest-most+1, most), "full, each twice": rising(1, most), "full, and not valid": rising(1, most), "full, and of others": rising(1, most),
		"one more": nil, "one more, falling": nil, "one more, behind": nil, "all Seqs": nil, "of another, all Seqs": {1}, "one, and so often": {3}, "one more, but not valid": rising(1, most),
	}
	for d := 1; d <= domains; d++ {
		for name, l := range lists(d) {
			seqs, found := want[name]
			if !found {
				t.Fatal(name)
			}
			b, e := lease.New(d%domains+1), api.OK
			if seqs == nil {
				e = api.ErrFull
			}
			if got := b.Learn(d, l, 10); got != e {
				t.Errorf("%s: Learn = %v, want %v", name, got, e)
			}
			held := b.Held(10)
			if len(held) != len(seqs) || b.Fresh(d, 10) != (e == api.OK) {
				t.Fatalf("%s: Held = %v, want %v", name, held, seqs)
			}
			for i, h := range held {
				if h.Cred.ID != id(d, seqs[i]) || h.Until != 66 || !slices.Contains(l, h.Cred) {
					t.Errorf("%s: %+v", name, h)
				}
			}
		}
	}
}

// P13.1: of several valid ones with the same ID the first counts.
func TestLearnFirst(t *testing.T) {
	wrong := member(3, 2, 5)
	wrong.Name = "A"
	for _, first := range kinds(3, 1) {
		first.ID.Seq = 2
		for _, l := range [][]api.Cred{
			{first, member(3, 2, 9)}, {wrong, first, member(3, 2, 9)}, {first, wrong, first}, {member(4, 2, 1), first, member(3, 2, 9), member(3, 2, 8)}, {member(3, 9, 1), first, member(3, 2, 9), member(3, 1, 1)},
		} {
			b := lease.New(16)
			if e := b.Learn(3, l, 0); e != api.OK || !slices.Contains(b.Held(0), api.Held{Cred: first, Until: 56}) {
				t.Errorf("of %+v is held: %+v, %v", l, b.Held(0), e)
			}
			if n, e := b.Until([]api.ID{id(3, 2)}, 0); n != 56 || e != api.OK {
				t.Error(n, e)
			}
		}
	}
}

// P13.1: each list behind each other one, of the same domain and of another one. What was held before is replaced, or stays as a whole.
func TestLearnReplaces(t *testing.T) {
	all := lists(2)
	names := slices.Sorted(maps.Keys(all))
	for _, first := range names {
		for _, second := range names {
			for _, asked := range []int{9, 10, 30} {
				b, m := lease.New(1), model{own: 1}
				m = try(t, b, m, learn(2, all[first], 10))
				m = try(t, b, m, learn(2, all[second], asked))
				for _, now := range []int{0, 65, 66, 85, 86} {
					if got, want := b.Held(now), m.held(now); !slices.Equal(got, want) {
						t.Fatalf("%s, then %s, asked at %d: Held(%d) = %+v, want %+v", first, second, asked, now, got, want)
					}
				}
			}
		}
		b, m := lease.New(1), model{own: 1}
		m = try(t, b, m, learn(2, all[first], 10))
		m = try(t, b, m, learn(3, lists(3)[first], 20))
		if got, want := b.Held(30), m.held(30); !slices.Equal(got, want) {
			t.Fatalf("%s of two domains: %+v, want %+v", first, got, want)
		}
	}
}

// P13.1: what is held of a domain is taken from the last answer alone: fewer, others, and none.
func TestLearnReplacesExamples(t *testing.T) {
	b := lease.New(1)
	for i, x := range []struct {
		l     []api.Cred
		asked int
		held  []api.ID
		until int
	}{
		{members(2, 1, 2, 3), 10, []api.ID{id(2, 1), id(2, 2), id(2, 3)}, 66}, {members(2, 2), 11, []api.ID{id(2, 2)}, 67}, {members(2, 9, 4), 11, []api.ID{id(2, 4), id(2, 9)}, 67}, {members(3, 9), 12, nil, 0}, {members(2, 4), 20, []api.ID{id(2, 4)}, 76}, {nil, 20, nil, 0}, {members(2, 1), 20, []api.ID{id(2, 1)}, 76},
	} {
		if e := b.Learn(2, x.l, x.asked); e != api.OK {
			t.Fatal(i, e)
		}
		held := b.Held(20)
		if !slices.Equal(idsOf(held), x.held) {
			t.Errorf("%d: %v, want %v", i, held, x.held)
		}
		for _, h := range held {
			if h.Until != x.until {
				t.Errorf("%d: %v, want %d", i, held, x.until)
			}
		}
		for seq := range 12 {
			want, e := x.until, api.OK
			if !slices.Contains(x.held, id(2, seq)) {
				want, e = 0, api.ErrNone
			}
			if n, got := b.Until([]api.ID{id(2, seq)}, 20); n != want || got != e {
				t.Errorf("%d: Until of %d = %d, %v", i, seq, n, got)
			}
		}
	}
}
