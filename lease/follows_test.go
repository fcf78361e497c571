package lease_test

import (
	"math/rand"
	"slices"
	"testing"

	"livery/api"
	"livery/lease"
)

// random is a call by chance: mostly one that may be, about the tick now.
func random(r *rand.Rand, now int) said {
	pick := func(l []int) int { return l[r.Intn(len(l))] }
	s := said{r.Intn(3) > 0, 1 + r.Intn(5), now + r.Intn(60) - 50, nil}
	if r.Intn(20) == 0 {
		s.domain = pick(places())
	}
	if r.Intn(20) == 0 {
		s.asked = pick(numbers())
	}
	size, seqs := r.Intn(7), 40
	if r.Intn(10) == 0 { // about as many as may be held
		size, seqs = most-6+r.Intn(24), greatest
	}
	for range size {
		d, n := s.domain, r.Intn(1000)
		if r.Intn(8) == 0 {
			d = r.Intn(domains + 2)
		}
		c := member(d, 1+r.Intn(seqs), n)
		if r.Intn(8) == 0 {
			c.Kind = r.Intn(6)
		}
		s.l = append(s.l, c)
	}
	return s
}

// sequence makes many calls by chance while time passes, the same ones for the same seed, and shows each with the ticks
// about it and the book and the model behind it.
func sequence(t *testing.T, seed int64, steps int, each func(b *lease.Book, m model, s said, e api.Errno, now int)) {
	t.Helper()
	r := rand.New(rand.NewSource(seed))
	now := 0
	if seed%4 == 3 { // at the end of the clock
		now = end - 200
	}
	own := 1 + r.Intn(5)
	b, m := lease.New(own), model{own: own}
	for range steps {
		now += r.Intn(12)
		s := random(r, now)
		next, want := m.with(s)
		if got := s.tell(b); got != want {
			t.Fatalf("%+v returns %v, want %v", s, got, want)
		}
		m = next
		each(b, m, s, want, now)
	}
}

// P13.1 to P13.3: long sequences of Learn and Hear, against the chapter's words, at ticks about all that matter of late.
func TestSequences(t *testing.T) {
	count := map[api.Errno]int{}
	for seed := range int64(40) {
		sequence(t, seed, 60, func(b *lease.Book, m model, s said, e api.Errno, now int) {
			count[e]++
			for _, n := range []int{now - 30, now, now + 9, now + 30, now + 60, s.asked + recent - 1, s.asked + recent, s.asked + term - 1, s.asked + term} {
				checkAt(t, "in a sequence", b, m, n)
			}
		})
	}
	if count[api.OK] < 800 || count[api.ErrArg] < 300 || count[api.ErrFull] < 10 {
		t.Error(count)
	}
}

// P13.4: nothing is held for longer than Lease after it was asked for, and what is held of a domain is part of its last answer.
func TestPartOfLastAnswer(t *testing.T) {
	count := 0
	for seed := range int64(100) {
		last := map[int]said{}
		sequence(t, seed, 80, func(b *lease.Book, m model, s said, e api.Errno, now int) {
			if s.learn && e == api.OK {
				last[s.domain] = s
			}
			for n := now - 60; n < now+120; n += 7 {
				for _, h := range b.Held(n) {
					d := h.Cred.ID.Domain
					s, found := last[d]
					if !found || d == m.own || h.Until > s.asked+56 || n >= s.asked+56 || !slices.Contains(s.l, h.Cred) {
						t.Fatalf("Held(%d) has %+v, behind the answer %+v", n, h, s)
					}
					count++
				}
			}
			for d, s := range last {
				ids := idsOf(b.Held(s.asked))
				for i, x := range ids {
					if ids[i].Domain != d {
						continue
					}
					for _, n := range []int{s.asked + 56, s.asked + 57, end, end + 1} {
						if until, e := b.Until([]api.ID{x}, n); until != 0 || e != api.ErrNone {
							t.Fatalf("asked at %d: Until of %v at %d = %d, %v", s.asked, x, n, until, e)
						}
					}
				}
			}
		})
	}
	if count < 10000 {
		t.Error(count)
	}
}

// P13.5: as time passes without new answers, no more is held, and nothing becomes fresh again.
func TestTimePasses(t *testing.T) {
	calls := 0
	for seed := range int64(30) {
		sequence(t, seed, 40, func(b *lease.Book, _ model, _ said, _ api.Errno, now int) {
			if calls++; calls%4 != 0 {
				return
			}
			for n := now - 70; n < now+120; n++ {
				noMore(t, b, n, n+1)
			}
		})
	}
}

// noMore tells if something is held or fresh at the later tick and wasn't at the earlier one.
func noMore(t *testing.T, b *lease.Book, earlier, later int) {
	t.Helper()
	before := b.Held(earlier)
	for _, h := range b.Held(later) {
		if !slices.Contains(before, h) {
			t.Fatalf("%v is held at %d, and not at %d", h, later, earlier)
		}
	}
	for d := 0; d <= domains+1; d++ {
		if b.Fresh(d, later) && !b.Fresh(d, earlier) {
			t.Fatalf("domain %d is fresh at %d, and not at %d", d, later, earlier)
		}
	}
	ids := append(idsOf(before), id(1, 1), id(5, 50))
	for i, x := range ids {
		for _, l := range [][]api.ID{{x}, ids[i:]} {
			n, e := b.Until(l, earlier)
			if k, wrong := b.Until(l, later); wrong == api.OK && (e != api.OK || n != k) {
				t.Fatalf("Until(%v, %d) = %d, and at %d %d, %v", l, later, k, earlier, n, e)
			}
			if b.Stale(l, earlier) && !b.Stale(l, later) {
				t.Fatalf("%v are stale at %d, and not at %d", l, earlier, later)
			}
		}
	}
}

// P13.5: tick by tick, from the first one to far behind all ends; and at the end of the clock.
func TestTickByTick(t *testing.T) {
	for _, start := range []int{0, end - 90} {
		b, _ := made(t, 3, learn(1, members(1, 4, 2), start+3), hear(2, start+9), learn(2, members(2, 1), start+20), learn(16, members(16, 7), start), hear(16, start+33))
		for n := start - 3; n < start+100; n++ {
			noMore(t, b, n, n+1)
		}
		if n := len(b.Held(start + 100)); n != 0 {
			t.Errorf("%d are held at the end", n)
		}
	}
}
