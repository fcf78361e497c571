package journal_test

import (
	"math/rand"
	"slices"
	"testing"

	"livery/api"
)

// answers tells if an answer, which is already the model's, isn't the one that is spelt out.
func (p *pair) answers(got, want api.Errno) {
	p.Helper()
	is(p.T, p.told, got, want)
}

// holds tells if the journal isn't the one that is spelt out.
func (p *pair) holds(generation, size int, l ...string) {
	p.Helper()
	has(p.T, p.told, p.j, generation, size, l...)
}

// lies tells if the tape isn't the one that is spelt out.
func (p *pair) lies(a, b string) {
	p.Helper()
	lies(p.T, p.told, p.x, a, b)
}

// again opens the journal once more, which must be as it was.
func (p *pair) again() {
	p.Helper()
	before, size, generation := records(p.j), p.j.Size(), p.j.Generation()
	p.reopen()
	p.holds(generation, size, before...)
}

// P17.2: what is no record is not appended, and changes nothing; also ahead of the error of the tape, which breaks nothing then.
func TestAppendNoRecord(t *testing.T) {
	none := []string{"", long(body + 1), long(body + 2), long(room), long(room + 1)}
	p := open(t, "", "")
	p.append("a")
	for _, s := range none {
		p.answers(p.append(s), api.ErrArg)
		p.holds(1, 12, "a")
	}
	p.again()
	p.fuse(0)
	for _, s := range none {
		p.answers(p.append(s), api.ErrArg)
	}
	p.crash(0)
	p.answers(p.append("b"), api.OK)
	p.holds(1, 17, "a", "b")
}

// P17.2: records of all sizes at the edges, one behind the other, on either side.
func TestAppend(t *testing.T) {
	for _, renewed := range []bool{false, true} {
		p := open(t, "", "")
		if renewed {
			p.answers(p.renew(), api.OK)
		}
		g, want, size := p.j.Generation(), []string(nil), 7
		for _, n := range []int{1, 2, 255, 256, 257, body - 1, body, 3, body, 1} {
			p.answers(p.append(long(n)), api.OK)
			want, size = append(want, long(n)), size+n+4
			p.holds(g, size, want...)
			p.again()
		}
	}
	p := open(t, "", "")
	for i := range 256 {
		p.answers(p.append(text(i)), api.OK)
		p.answers(p.append(text(0, i)), api.OK)
	}
	p.again()
	p.answers(p.append(frame("a")), api.OK)
	p.answers(p.append(head(9, 0)), api.OK)
	p.again()
}

// deed is a call of a journal: Renew with a list, or Append of its first one.
type deed struct {
	renew bool
	l     []string
}

// done asks for it.
func (d deed) done(p *pair) api.Errno {
	p.Helper()
	if d.renew {
		return p.renew(d.l...)
	}
	return p.append(d.l[0])
}

// calls are how many calls of the tape it consists of.
func (d deed) calls() int {
	if d.renew {
		return 3
	}
	return 2
}

// size is how many units these have.
func (d deed) size(generation int) int {
	if d.renew {
		return 1 + len(side(generation+1, d.l...))
	}
	return len(frame(d.l[0]))
}

// burns makes a deed with a fuse of one call more than it has, and tells if it has any other number of calls, or leaves anything
// unsynchronized.
func (d deed) burns(p *pair) {
	p.Helper()
	p.fuse(d.calls() + 1)
	p.answers(d.done(p), api.OK)
	if p.x.Units() != 0 {
		p.Errorf("%s: %d units", p.told, p.x.Units())
	}
	is(p.T, p.told+": the last call", p.x.Sync(), api.OK)
	is(p.T, p.told+": one more", p.x.Sync(), api.ErrDown)
	p.y.Sync()
	p.crash(0)
}

// P17.2: an Append is a Write and a Sync; nothing is left unsynchronized.
func TestAppendIsSynchronized(t *testing.T) {
	p := open(t, "", "")
	for _, s := range []string{"a", long(body), "b"} {
		deed{false, []string{s}}.burns(p)
	}
	p.holds(1, 7+5+8196+5, "a", long(body), "b")
	p.again()
}

// filled is a journal whose side has so much room left.
func filled(t *testing.T, left int) *pair {
	t.Helper()
	p := open(t, "", "")
	for p.j.Size() < room-left {
		p.answers(p.append(long(min(body, max(1, room-left-p.j.Size()-4)))), api.OK)
	}
	if p.j.Size() != room-left {
		t.Fatal(p.j.Size())
	}
	return p
}

// P17.2: a record that just fills the side, one of a byte more, and smaller ones behind ErrRoom, which has changed nothing.
func TestAppendRoom(t *testing.T) {
	for _, left := range []int{5, 6, 7, 100, 5000, 8196} {
		p := filled(t, left)
		before := records(p.j)
		if left < body+4 {
			p.answers(p.append(long(left-3)), api.ErrRoom)
			p.answers(p.append(long(body)), api.ErrRoom)
		}
		p.holds(1, room-left, before...)
		p.answers(p.append(long(left-4)), api.OK)
		p.holds(1, room, append(slices.Clone(before), long(left-4))...)
		p.again()
		p.answers(p.append("a"), api.ErrRoom)
		p.holds(1, room, append(slices.Clone(before), long(left-4))...)
		p.again()
	}
	for left := range 5 {
		p := filled(t, left)
		for range 3 {
			p.answers(p.append("a"), api.ErrRoom)
			p.answers(p.append(long(body+1)), api.ErrArg)
		}
		p.again()
	}
	p := filled(t, 20)
	p.answers(p.append(long(17)), api.ErrRoom)
	p.answers(p.append(long(10)), api.OK)
	p.answers(p.append(long(3)), api.ErrRoom)
	p.answers(p.append(long(2)), api.OK)
	p.answers(p.append("a"), api.ErrRoom)
	p.again()
	p.answers(p.renew("x", "y"), api.OK)
	p.holds(2, 18, "x", "y")
	p.answers(p.append("a"), api.OK)
	p.again()
}

// P17.2: when the power is off, the error is the tape's, also where there is no room.
func TestAppendRoomPowerOff(t *testing.T) {
	p := filled(t, 5)
	p.fuse(0)
	p.answers(p.append("ab"), api.ErrDown)
	p.crash(0)
	p.answers(p.append("a"), api.ErrDown)
	p.again()
	p.answers(p.append("ab"), api.ErrRoom)
	p.answers(p.append("a"), api.OK)
}

// P17.2: Renew replaces all records, on the other side, each time with the next generation; what the other side had is gone.
func TestRenew(t *testing.T) {
	p := open(t, "", "")
	p.append("old")
	sides := [2]string{side(1) + "", ""}
	sides[0] += frame("old")
	for i, l := range [][]string{nil, {"a"}, {"b", "c"}, nil, {long(body), "d", long(300)}, ones(300), {head(3, 3)}, nil, nil} {
		p.answers(p.renew(l...), api.OK)
		sides[1-i%2] = side(i+2, l...)
		p.lies(sides[0], sides[1])
		p.holds(i+2, len(sides[1-i%2]), l...)
		p.again()
		if i%3 > 0 {
			p.answers(p.append("more"), api.OK)
			sides[1-i%2] += frame("more")
			p.holds(i+2, len(sides[1-i%2]), append(slices.Clone(l), "more")...)
			p.again()
		}
	}
	p.lies(sides[0], sides[1])
}

// P17.2: a Renew is a Clear, a Write and a Sync; nothing is left unsynchronized.
func TestRenewIsSynchronized(t *testing.T) {
	p := open(t, "", "")
	for _, l := range [][]string{nil, {"a"}, {"b", long(body)}, ones(many)} {
		deed{true, l}.burns(p)
	}
	p.holds(5, 9+5*many, ones(many)...)
	p.again()
}

// P17.2: the other side may have anything that Open takes: it is cleared.
func TestRenewOverAnything(t *testing.T) {
	for _, other := range []string{"", text(0), text(0, 9, 1), side(1), side(4, "x") + text(0), frame(head(6, 1)), frame(head(most, 3)) + frames("x", "y"), side(3, ones(many)...)} {
		p := open(t, side(5, "a"), other)
		p.answers(p.renew("b"), api.OK)
		p.holds(6, 13, "b")
		p.lies(side(5, "a"), side(6, "b"))
		p.again()
		p = open(t, other, side(5, "a"))
		p.answers(p.renew("b"), api.OK)
		p.holds(6, 13, "b")
		p.lies(side(6, "b"), side(5, "a"))
		p.again()
	}
}

// notRenewed tells if Renew with a list doesn't return an error and leave everything as it was; nothing is broken behind it.
func notRenewed(t *testing.T, p *pair, e api.Errno, l ...string) {
	t.Helper()
	before, size, generation := records(p.j), p.j.Size(), p.j.Generation()
	p.answers(p.renew(l...), e)
	p.holds(generation, size, before...)
	p.fuse(0)
	p.answers(p.renew(l...), e) // ahead of the error of the tape, of which nothing is asked
	p.crash(0)
	p.answers(p.append("on"), api.OK)
	p.again()
}

// P17.2: lists of which one is no record, and lists that are too long; these errors come ahead of ErrRoom.
func TestRenewNoRecords(t *testing.T) {
	p := open(t, "", "")
	for _, s := range []string{"", long(body + 1), long(room + 1)} {
		for _, l := range [][]string{{s}, {"a", s}, {s, "a"}, {"a", s, "b"}, append(ones(many-1), s), {s, s}} {
			notRenewed(t, p, api.ErrArg, l...)
		}
		full := []string{long(body), long(body), long(body), long(body), long(body), long(body), long(body), long(body)}
		notRenewed(t, p, api.ErrArg, append(full, s)...)
		notRenewed(t, p, api.ErrArg, append([]string{s}, full...)...)
	}
	notRenewed(t, p, api.ErrArg, ones(many+1)...)
	notRenewed(t, p, api.ErrArg, ones(many+2)...)
	notRenewed(t, p, api.ErrArg, ones(4*many)...)
	notRenewed(t, p, api.ErrArg, slices.Repeat([]string{long(100)}, many+1)...)
	notRenewed(t, p, api.ErrArg, slices.Repeat([]string{""}, many+1)...)
}

// P17.2: as many records as there may be, also behind which others are appended.
func TestRenewMany(t *testing.T) {
	for _, n := range []int{many - 1, many} {
		p := open(t, "", "")
		p.answers(p.renew(ones(n)...), api.OK)
		p.holds(2, 9+5*n, ones(n)...)
		p.again()
		for range 3 {
			p.answers(p.append("a"), api.OK)
		}
		p.holds(2, 9+5*n+15, append(ones(n), "a", "a", "a")...)
		p.again()
		p.answers(p.renew(append(ones(many-1), "b")...), api.OK)
		p.holds(3, 9+5*many, append(ones(many-1), "b")...)
		p.again()
	}
}

// P17.2: frames that just fill a side, and one byte more, by few large records and by many small ones.
func TestRenewRoom(t *testing.T) {
	large := slices.Repeat([]string{long(body)}, 7)
	fits := append(slices.Clone(large), long(room-8-7*(body+4)-4))
	over := append(slices.Clone(large), long(room-8-7*(body+4)-3))
	small := slices.Repeat([]string{long(12)}, many-1) // 3999 * 16, and 9 of the head
	fitsSmall := append(slices.Clone(small), long(room-9-16*(many-1)-4))
	overSmall := append(slices.Clone(small), long(room-9-16*(many-1)-3))
	for _, l := range [][2][]string{{fits, over}, {fitsSmall, overSmall}} {
		p := open(t, "", "")
		p.append("a")
		notRenewed(t, p, api.ErrRoom, l[1]...)
		p.lies(side(1)+frames("a", "on"), "")
		p.answers(p.renew(l[0]...), api.OK)
		p.holds(2, room, l[0]...)
		p.again()
		p.answers(p.append("a"), api.ErrRoom)
		p.answers(p.renew(l[1]...), api.ErrRoom)
		p.holds(2, room, l[0]...)
		p.again()
		p.answers(p.renew(l[0]...), api.OK)
		p.holds(3, room, l[0]...)
		p.again()
		p.answers(p.renew("z"), api.OK)
		p.holds(4, 13, "z")
	}
	p := open(t, "", "")
	notRenewed(t, p, api.ErrRoom, slices.Repeat([]string{long(body)}, 8)...)
	notRenewed(t, p, api.ErrRoom, slices.Repeat([]string{long(body)}, many)...)
	notRenewed(t, p, api.ErrRoom, slices.Repeat([]string{long(13)}, many)...)
}

// P17.2: the head's own bytes count: a generation with one digit more leaves one byte less.
func TestRenewRoomOfTheHead(t *testing.T) {
	for _, c := range []struct{ generation, bytes int }{{254, 8}, {255, 9}, {256, 9}, {65534, 9}, {65535, 10}, {most - 2, 12}, {most - 1, 13}} {
		large := slices.Repeat([]string{long(body)}, 7)
		p := open(t, side(c.generation), "")
		left := room - c.bytes - 7*(body+4) - 4
		notRenewed(t, p, api.ErrRoom, append(slices.Clone(large), long(left+1))...)
		p.answers(p.renew(append(slices.Clone(large), long(left))...), api.OK)
		p.holds(c.generation+1, room, append(slices.Clone(large), long(left))...)
		p.again()
	}
}

// P17.2: the last generation: it is reached, and nothing can be renewed then, though records can still be appended.
func TestRenewLastGeneration(t *testing.T) {
	for _, l := range [][]string{nil, {"a"}, {""}, slices.Repeat([]string{long(body)}, 8), ones(many + 1)} {
		p := open(t, "", side(most, "x"))
		notRenewed(t, p, api.ErrArg, l...)
		p.holds(most, 24, "x", "on")
	}
	p := open(t, side(most-2), side(most-3))
	p.answers(p.renew("a"), api.OK)
	p.holds(most-1, 17, "a")
	p.again()
	p.answers(p.renew("b"), api.OK)
	p.holds(most, 18, "b")
	p.again()
	p.answers(p.renew("c"), api.ErrArg)
	p.answers(p.append("c"), api.OK)
	p.holds(most, 23, "b", "c")
	p.again()
}

// dead tells if a broken journal doesn't return ErrDown for everything, or changes anything.
func (p *pair) dead() {
	p.Helper()
	before, size, generation, units := records(p.j), p.j.Size(), p.j.Generation(), p.x.Units()
	for _, s := range []string{"", long(body + 1), long(body), "a"} { // first those that would not reach the tape
		p.answers(p.append(s), api.ErrDown)
	}
	for _, l := range [][]string{{""}, ones(many + 1), slices.Repeat([]string{long(body)}, 8), nil, {"a"}} {
		p.answers(p.renew(l...), api.ErrDown)
	}
	p.holds(generation, size, before...)
	if p.x.Units() != units {
		p.Fatalf("%s: %d units, want %d", p.told, p.x.Units(), units)
	}
}

// deeds are calls that change a journal.
func deeds() []deed {
	return []deed{
		{false, []string{"a"}}, {false, []string{"record"}}, {false, []string{frame("b")}},
		{true, nil}, {true, []string{"c"}}, {true, []string{"de", "f", "ghi"}},
	}
}

// P17.2: a power that goes off at each call of Append and of Renew: from then on, also when the power is on again, the journal is
// broken, and what it tells of itself stays.
func TestBroken(t *testing.T) {
	for _, start := range deeds() {
		for _, d := range deeds() {
			for n := range 2 * d.calls() {
				fuse, asked := n/2, n%2 == 0 // whether anything is asked while the power is off
				begun := func() *pair {
					p := open(t, "", "")
					p.answers(start.done(p), api.OK)
					before, size, generation := records(p.j), p.j.Size(), p.j.Generation()
					p.fuse(fuse)
					p.answers(d.done(p), api.ErrDown)
					p.holds(generation, size, before...)
					if asked {
						p.dead()
					}
					return p
				}
				crashes(begun, func(p *pair, k int) {
					p.dead()
					p.fuse(0)
					p.dead()
					p.crash(0)
					p.dead()
				})
			}
		}
	}
}

// P17.2: a power that goes off behind the last call of an Append or a Renew breaks the journal only at the next one; and one that
// went off and came back while nothing was asked of the journal doesn't break it.
func TestNotYetBroken(t *testing.T) {
	for _, d := range deeds() {
		for _, next := range deeds() {
			for _, back := range []bool{false, true} {
				p := open(t, "", "")
				p.fuse(d.calls())
				p.answers(d.done(p), api.OK)
				p.answers(p.append(""), api.ErrArg)
				p.answers(p.renew(""), api.ErrArg)
				if back {
					p.crash(0)
					p.answers(next.done(p), api.OK)
					p.again()
					continue
				}
				p.answers(next.done(p), api.ErrDown)
				p.dead()
				p.crash(0)
				p.dead()
			}
		}
	}
}

// P17.2 and P17.3: long sequences of calls, with records of all sizes.
func TestManyDeeds(t *testing.T) {
	sizes := []int{0, 1, 1, 1, 2, 3, 10, 100, 255, 256, 300, 1000, 3000, body - 1, body, body + 1}
	for seed := range int64(12) {
		r := rand.New(rand.NewSource(1720 + seed))
		p := open(t, "", "")
		for range 120 {
			p.told = ""
			switch r.Intn(8) {
			case 0:
				var l []string
				for range r.Intn(12) {
					l = append(l, long(sizes[r.Intn(len(sizes)-int(seed%2)*3)]))
				}
				p.renew(l...)
			case 1:
				p.again()
			default:
				p.append(long(sizes[r.Intn(len(sizes))]))
			}
		}
	}
}
