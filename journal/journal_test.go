package journal_test

import (
	"math/rand"
	"slices"
	"strconv"
	"strings"
	"testing"

	"livery/api"
	"livery/journal"
	"livery/tape"
)

// The limits that this chapter names.
func TestLimits(t *testing.T) {
	if api.TapeSize != room || api.MaxBody != body || api.MaxNumber != most {
		t.Error(api.TapeSize, api.MaxBody, api.MaxNumber)
	}
}

// The chapter's examples, byte by byte. The sums are those of another program. Where the last example has 0 4 ahead of the
// first head, its length is 3 by the words, and by the Size 7.
func TestExamples(t *testing.T) {
	made, a := text(0, 3, 1, 1, 0, 142, 209), text(0, 1, 97, 131, 42)
	b, c := text(0, 1, 98, 179, 73), text(0, 1, 99, 163, 104)
	renewed := text(0, 4, 1, 2, 1, 2, 140, 177) + b + c
	x := tape.New()
	j := opens(t, "an empty tape", x)
	has(t, "a new journal", j, 1, 7)
	lies(t, "a new journal", x, made, "")
	is(t, "an empty record", j.Append(nil), api.ErrArg)
	is(t, "8193 bytes", j.Append(make([]byte, 8193)), api.ErrArg)
	is(t, "Append(a)", j.Append([]byte("a")), api.OK)
	has(t, "Append(a)", j, 1, 12, "a")
	lies(t, "Append(a)", x, made+a, "")
	is(t, "Renew([b, c])", j.Renew(listed([]string{"b", "c"})), api.OK)
	has(t, "Renew([b, c])", j, 2, 18, "b", "c")
	lies(t, "Renew([b, c])", x, made+a, renewed)
	has(t, "opened again", opens(t, "again", x), 2, 18, "b", "c")
	if _, e := journal.Open(laid(text(0, 0), "")); e != api.ErrCorrupt {
		t.Error("a side that begins with 0 0:", e)
	}
	has(t, "one with only 0 9 5", opens(t, "0 9 5", laid(text(0, 9, 5), "")), 1, 7)
}

// opening is two sides, and what Open returns for them and leaves, spelt out.
type opening struct {
	told             string
	a, b             string
	generation, size int // of the journal; no generation: it is corrupt
	records          []string
	left             [2]string
}

// checked tells if an opening isn't so, or isn't the model's.
func (o opening) checked(t *testing.T) {
	t.Helper()
	x := laid(o.a, o.b)
	j, e := journal.Open(x)
	if o.generation == 0 {
		if j != nil || e != api.ErrCorrupt {
			t.Errorf("%s: Open = %v, want ErrCorrupt", o.told, e)
		}
		o.left = [2]string{o.a, o.b}
	} else if is(t, o.told, e, api.OK); e == api.OK {
		has(t, o.told, j, o.generation, o.size, o.records...)
	}
	lies(t, o.told, x, o.left[0], o.left[1])
	if x.Units() != 0 {
		t.Errorf("%s: %d units that are not synchronized", o.told, x.Units())
	}
	open(t, o.a, o.b)
}

// corrupt tells if a side isn't corrupt, as either one, beside an empty side and beside one with a journal.
func corrupt(t *testing.T, told, s string) {
	t.Helper()
	for _, other := range []string{"", text(0), side(1, "x", "y"), side(most)} {
		opening{told: told, a: s, b: other}.checked(t)
		opening{told: told, a: other, b: s}.checked(t)
	}
}

// anew tells if a new journal isn't made where these sides are.
func anew(t *testing.T, told, a, b string) {
	t.Helper()
	opening{told, a, b, 1, 7, nil, [2]string{side(1), ""}}.checked(t)
	opening{told, b, a, 1, 7, nil, [2]string{side(1), ""}}.checked(t)
}

// holds tells if a side isn't the current one, with these records and cut to its first bytes, beside each of the others.
func holds(t *testing.T, told, s string, generation, size int, l []string, others ...string) {
	t.Helper()
	for _, other := range others {
		opening{told, s, other, generation, size, l, [2]string{s[:size], other}}.checked(t)
		opening{told, other, s, generation, size, l, [2]string{other, s[:size]}}.checked(t)
	}
}

// P17.1: no tape.
func TestOpenNil(t *testing.T) {
	if j, e := journal.Open(nil); j != nil || e != api.ErrArg {
		t.Error(e)
	}
}

// P17.1: a new journal is made on an empty tape, and is found again.
func TestOpenEmpty(t *testing.T) {
	anew(t, "an empty tape", "", "")
	x := tape.New()
	for range 3 {
		has(t, "a new journal", opens(t, "again", x), 1, 7)
		lies(t, "a new journal", x, side(1), "")
	}
	p := open(t, "", "")
	p.append("a")
	p.reopen()
	has(t, "a", p.j, 1, 12, "a")
}

// P17.1: the error of the tape comes ahead of ErrCorrupt, and no journal is returned with it.
func TestOpenPowerOff(t *testing.T) {
	for _, s := range []string{"", text(0), text(0, 0), side(1), side(1, "a") + text(0)} {
		x := laid(s, s)
		x.Fuse(0)
		if j, e := journal.Open(x); j != nil || e != api.ErrDown {
			t.Errorf("%s: %v", brief(s), e)
		}
		x.Crash(0)
		lies(t, "power off", x, s, s)
	}
}

// P17.1: the calls of the tape by which a journal is made or trimmed, the power going off at each of them; nothing is asked of
// the tape where neither is due. Whatever is kept then, the same journal is opened again.
func TestOpenPowerGoesOff(t *testing.T) {
	torn := frame("tail")[:5]
	for _, c := range []struct {
		told, a, b       string
		calls            int
		generation, size int
		records          []string
	}{
		{"made", "", "", 4, 1, 7, nil},
		{"made anew", side(1)[:6], side(2, "a")[:5], 4, 1, 7, nil},
		{"trimmed on side 0", side(1, "a") + torn, "", 2, 1, 13, []string{"a"}},
		{"trimmed on side 1", side(3, "a"), side(4, "b") + torn, 2, 4, 13, []string{"b"}},
		{"the other side is torn", side(5, "a"), side(4, "b") + torn, 0, 5, 13, []string{"a"}},
		{"the other side is not complete", side(5, "a"), side(6, "b")[:9], 0, 5, 13, []string{"a"}},
	} {
		for fuse := range 7 {
			begun := func() *pair {
				p := &pair{T: t, x: laid(c.a, c.b), y: laid(c.a, c.b), told: c.told}
				p.fuse(fuse)
				p.reopen()
				if down := fuse < max(1, c.calls); down != (p.j == nil) {
					t.Fatalf("%s: with fuse %d it is opened: %v", c.told, fuse, !down)
				}
				return p
			}
			crashes(begun, func(p *pair, k int) {
				p.reopen()
				has(t, p.told, p.j, c.generation, c.size, c.records...)
			})
		}
	}
}

// P17.1: a fuse of which Open's own calls are a part: none of them is more or less.
func TestOpenBurns(t *testing.T) {
	torn := text(1)
	for _, c := range []struct {
		a     string
		calls int
	}{{"", 4}, {side(1), 0}, {side(1) + torn, 2}, {torn, 4}} {
		x := laid(c.a, "")
		x.Fuse(c.calls + 1)
		opens(t, "with a fuse", x)
		is(t, "the last call", x.Sync(), api.OK)
		is(t, "one more", x.Sync(), api.ErrDown)
	}
}

// P17.1: a side that is torn after each number of bytes of a frame: the first one, a later one, and one of many bytes.
func TestTorn(t *testing.T) {
	first := side(1)
	for n := range len(first) {
		anew(t, "a torn head", first[:n], "")
		for m := range len(first) {
			anew(t, "two torn heads", first[:n], side(2)[:m])
		}
		holds(t, "a torn head beside a journal", side(9, "a"), 9, 13, []string{"a"}, first[:n])
	}
	all, next := side(3, "a", "bc"), frame("next one")
	for n := range len(next) {
		holds(t, "a torn frame", all+next[:n], 3, len(all), []string{"a", "bc"}, "", text(7), side(2, "x"), side(2, "x")+next[:n])
	}
	holds(t, "a whole frame", all+next, 3, len(all+next), []string{"a", "bc", "next one"}, "", side(2, "x"))
	large := frame(long(body))
	for _, n := range []int{1, 2, 3, 4, 255, 256, 257, body, body + 1, body + 2, body + 3} {
		anew(t, "a torn large frame", large[:n], "")
		holds(t, "a torn large frame", all+large[:n], 3, len(all), []string{"a", "bc"}, "")
	}
	holds(t, "a large frame", all+large, 3, len(all+large), []string{"a", "bc", long(body)}, "")
	for _, s := range []string{text(0), text(31), text(32), text(33), text(255)} {
		anew(t, "only one byte of the length", s, "")
		holds(t, "only one byte of the length", all+s, 3, len(all), []string{"a", "bc"}, "")
	}
	for _, s := range []string{text(0, 1), text(32, 0), text(32, 0, 1), text(31, 255, 9), text(0, 9, 5), text(0, 1, 9, 9)} {
		anew(t, "too few bytes behind a length", s, "")
		holds(t, "too few bytes behind a length", all+s, 3, len(all), []string{"a", "bc"}, "")
	}
}

// P17.1: sides that are invalid: a length that is out of range, whatever follows it, and each byte of a frame turned, as the
// first frame and as a later one.
func TestInvalid(t *testing.T) {
	starts := []string{"", side(1), side(2, "a"), frame(head(2, 5))}
	for _, start := range starts {
		for _, length := range []int{0, body + 1, body + 2, body + 256, 1<<14 + 1, 1 << 15, 65534, 65535} {
			s := text(length/256, length%256)
			corrupt(t, "a wrong length", start+s)
			corrupt(t, "a wrong length and bytes", start+s+text(0xff, 0xff, 1, 2, 3))
			s += long(length)
			if len(start)+len(s)+2 <= room {
				corrupt(t, "a wrong length and the rest of a frame", start+s+text(sum(s)/256, sum(s)%256))
			}
		}
		for _, whole := range []string{frame("b"), frame(head(4, 0)), frame("record of several bytes")} {
			for i := 2; i < len(whole); i++ {
				for bit := range 8 {
					turned := []byte(whole)
					turned[i] ^= 1 << bit
					corrupt(t, "a turned byte", start+string(turned))
					corrupt(t, "a turned byte, and on", start+string(turned)+whole)
				}
			}
		}
	}
	corrupt(t, "a sum of the record alone", side(1)+text(0, 1, 97, sum("a")/256, sum("a")%256))
	corrupt(t, "a sum with its lower byte first", side(1)+text(0, 1, 97, sum(text(0, 1, 97))%256, sum(text(0, 1, 97))/256))
	corrupt(t, "a length with its lower byte first", text(3, 0, 1, 1, 0)+strings.Repeat("z", 800))
	corrupt(t, "the chapter's last example, as it stands", text(0, 4, 1, 1, 0)+text(sum(text(0, 4, 1, 1, 0))/256, sum(text(0, 4, 1, 1, 0))%256)+frame("a"))
}

// notHeads are records that are no heads.
func notHeads() map[string]string {
	return map[string]string{
		"a generation of 0":                    head(0, 0),
		"a generation above MaxNumber":         head(most+1, 0),
		"the greatest generation":              head(1<<63-1, 0),
		"a generation above 2^63 - 1":          text(8, 128, 0, 0, 0, 0, 0, 0, 0, 0),
		"too many bytes of a generation":       text(9, 1, 0, 0, 0, 0, 0, 0, 0, 0, 0),
		"4001 records":                         head(1, many+1),
		"65536 records":                        head(1, 1<<16),
		"the greatest number of records":       head(1, 1<<63-1),
		"a byte behind the numbers":            head(1, 0) + text(0),
		"a number behind the numbers":          head(1, 0) + number(1),
		"no number of records":                 number(1),
		"a generation that breaks off":         text(1),
		"a greater generation that breaks off": text(3, 1, 1),
		"a number of records that breaks off":  number(1) + text(1),
		"a greater number that breaks off":     number(1) + text(2, 1),
		"a generation with a leading 0":        text(2, 0, 1, 0),
		"a number with a leading 0":            text(1, 1, 2, 0, 1),
		"a 0 that is written as a byte":        text(1, 1, 1, 0),
		"a 0 for a generation, as a byte":      text(1, 0, 0),
		"a record of one byte":                 "a",
		"one 0":                                text(0),
		"two 0":                                text(0, 0),
		"a long record":                        long(body),
		"a head and much else":                 head(1, 0) + long(body-3),
	}
}

// P17.1: a side that has a frame, the first one of which is not that of a head.
func TestFirstIsNoHead(t *testing.T) {
	for told, record := range notHeads() {
		s := frame(record)
		for _, rest := range []string{"", text(0), frame("a"), frame("a")[:4], side(1), frame(head(1, 0))} {
			corrupt(t, told, s+rest)
		}
	}
}

// P17.1: what no head may be is a record like others behind one.
func TestNoHeadBehindAHead(t *testing.T) {
	for told, record := range notHeads() {
		s := side(1, "a", record, record)
		holds(t, told, s, 1, len(s), []string{"a", record, record}, "", text(0, 9))
	}
	s := side(1, head(2, 0), head(3, 4))
	holds(t, "heads behind a head", s, 1, len(s), []string{head(2, 0), head(3, 4)}, "")
}

// P17.1: the generations and the numbers of records that a head may have.
func TestHeads(t *testing.T) {
	for _, g := range []int{1, 2, 127, 128, 255, 256, 257, 65535, 65536, 1 << 24, 1<<32 - 1, 1 << 32, most - 1, most} {
		s := side(g, "a")
		holds(t, "a generation", s, g, len(s), []string{"a"}, "", text(0, 1), frame(head(g, 3)))
	}
	for _, n := range []int{0, 1, 2, 255, 256, 257, many - 1, many} {
		s := side(7, ones(n)...)
		holds(t, "so many records", s, 7, len(s), ones(n), "", side(6, "x"))
	}
}

// P17.1: a head that says fewer records than follow, as many, and more.
func TestCount(t *testing.T) {
	for n := range 6 {
		for says := range 8 {
			s := frame(head(4, says)) + frames(ones(n)...)
			if says <= n {
				holds(t, "complete", s, 4, len(s), ones(n), "", text(0, 1), side(3, "x"), frame(head(5, 1)))
				holds(t, "complete and torn", s+text(0, 1, 2), 4, len(s), ones(n), "", text(0, 1), side(3, "x"), frame(head(5, 1)))
				continue
			}
			others := []string{"", text(0), text(0, 1, 2, 3), s, s + text(0), frame(head(5, 1)), frame(head(4, many))}
			for _, other := range others {
				opening{told: "not complete", a: s, b: other}.checked(t)
				opening{told: "not complete", a: other, b: s}.checked(t)
			}
			holds(t, "beside one that is not complete", side(1, "x"), 1, 13, []string{"x"}, s, s+text(0))
		}
	}
	s := frame(head(1, many)) + frames(ones(many-1)...)
	opening{told: "3999 of 4000", a: s}.checked(t)
	s += frame("a")
	holds(t, "4000 of 4000", s, 1, len(s), append(ones(many-1), "a"), "")
	s += frames(ones(many)...)
	holds(t, "8000 of 4000", s, 1, len(s), append(append(ones(many-1), "a"), ones(many)...), "")
}

// P17.1: both sides are complete: the one with the greater generation counts, also if either is torn, and whichever has more
// records; of the same generation neither does.
func TestBothComplete(t *testing.T) {
	torn := []string{"", text(0), frame("t")[:4]}
	for _, g := range []int{1, 2, 3, 255, 256, 1 << 32, most - 1, most} {
		for _, h := range []int{1, 2, 3, 255, 256, 1 << 32, most - 1, most} {
			for _, ta := range torn {
				for _, tb := range torn {
					a, b := side(g, "a", "b", "c"), side(h, "d")
					o := opening{told: "both complete", a: a + ta, b: b + tb}
					if g > h {
						o.generation, o.size, o.records, o.left = g, len(a), []string{"a", "b", "c"}, [2]string{a, b + tb}
					} else if g < h {
						o.generation, o.size, o.records, o.left = h, len(b), []string{"d"}, [2]string{a + ta, b}
					}
					o.checked(t)
				}
			}
		}
	}
	for _, s := range []string{side(1), side(5, "a"), side(5, "a") + text(0)} {
		opening{told: "twice the same", a: s, b: s}.checked(t)
	}
}

// P17.1: a generation that is greater does not count on a side that is not complete, and neither does one that is the same.
func TestOneComplete(t *testing.T) {
	for _, g := range []int{1, 4, 5, 6, most} {
		others := []string{frame(head(g, 1)), frame(head(g, 1)) + text(0), frame(head(g, 3)) + frames("x", "y"), frame(head(g, 3)) + frames("x", "y", "z")[:13]}
		holds(t, "only this one is complete", side(5, "a", "b"), 5, 18, []string{"a", "b"}, others...)
	}
	for _, g := range []int{1, 4, 6, most} {
		corrupt(t, "the other one is invalid", side(g)+text(0, 0))
	}
}

// pieces are what sides are put together of.
func pieces() []string {
	return []string{
		"", text(0), text(0, 1), text(0, 3, 1), text(32, 0), text(0, 0), text(32, 1), text(255, 255),
		frame(head(1, 0)), frame(head(1, 1)), frame(head(2, 0)), frame(head(2, 1)), frame(head(2, 2)), frame(head(3, 0)), frame(head(3, 4)),
		frame("a"), frame("bc"), frame(long(300)), frame("a")[:3], frame("bc")[:5], frame(long(300))[:302],
		frame(head(0, 0)), frame(head(1, 0) + text(0)), text(0, 1, 97, 0, 0),
	}
}

// P17.1: every two sides of up to two pieces; and many longer ones.
func TestOpenAll(t *testing.T) {
	l := pieces()
	var sides []string
	for _, a := range l {
		for _, b := range l[1:] {
			sides = append(sides, a+b)
		}
	}
	slices.Sort(sides)
	sides = slices.Compact(sides)
	for _, a := range sides {
		for _, b := range []string{"", text(0), side(1), side(2, "a"), side(2, "a") + text(0), frame(head(3, 1)), frame("a")} {
			open(t, a, b)
			open(t, b, a)
		}
	}
	r := rand.New(rand.NewSource(171))
	for range 30000 {
		var both [2]string
		for i := range both {
			for range r.Intn(6) {
				both[i] += l[r.Intn(len(l))]
			}
		}
		open(t, both[0], both[1])
	}
}

// P17.1: sides of any few bytes, and frames of any few bytes behind a head.
func TestOpenBytes(t *testing.T) {
	r := rand.New(rand.NewSource(172))
	few := []int{0, 0, 0, 1, 1, 2, 3, 32, 33, 97, 255}
	for range 30000 {
		var both [2]string
		for i := range both {
			s := ""
			for range r.Intn(7) {
				s += text(few[r.Intn(len(few))])
			}
			switch r.Intn(4) {
			case 0:
				both[i] = s
			case 1:
				both[i] = side(1+r.Intn(3)) + s
			case 2:
				both[i] = frame(s+"z") + s
			case 3:
				both[i] = frame(s+text(0)) + frames(strconv.Itoa(r.Int()))
			}
		}
		open(t, both[0], both[1])
	}
}

// P17.3: Size is that of the frames alone, and what the side has behind Open.
func TestSize(t *testing.T) {
	for _, c := range []struct {
		s    string
		size int
	}{
		{side(1), 7}, {side(256), 8}, {side(most), 12}, {side(1, "a"), 13}, {side(1, "a", "bc"), 19},
		{frame(head(1, 0)) + frame("a"), 12}, {side(1, long(body)), 8 + 8196}, {side(1, ones(many)...), 9 + 20000},
	} {
		for _, torn := range []string{"", text(0), text(0, 9, 1)} {
			x := laid(c.s+torn, "")
			j := opens(t, "a size", x)
			if b, _ := x.Read(0); j.Size() != c.size || len(b) != j.Size() {
				t.Errorf("%s: Size %d, want %d", brief(c.s), j.Size(), c.size)
			}
		}
	}
}
