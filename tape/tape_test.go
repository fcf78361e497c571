package tape_test

import (
	"math"
	"math/big"
	"slices"
	"strconv"
	"strings"
	"testing"

	"livery/api"
	"livery/tape"
)

const (
	full  = 65536   // TapeSize
	most  = 1 << 40 // MaxNumber
	least = math.MinInt
	great = math.MaxInt
)

// The limits that this chapter names.
func TestLimits(t *testing.T) {
	if api.TapeSize != full || api.MaxNumber != most {
		t.Error(api.TapeSize, api.MaxNumber)
	}
}

// unit is an unsynchronized unit, as the chapter's words have it: a byte that was written, a clearing, or a trimming.
type unit struct {
	what byte // 'w', 'c', 't'
	side int
	b    byte // of 'w'
	n    int  // of 't'
}

// model is a tape as the chapter's words have it: what was synchronized, and all that happened since, unit by unit.
type model struct {
	synced [2]string
	units  []unit
	done   int   // the calls that were executed since the last Crash
	ends   []int // for each fuse: with how many of them it has burnt down
}

// sides are the sides with the first k units.
func (m *model) sides(k int) [2]string {
	var l [2][]byte
	for i, s := range m.synced {
		l[i] = []byte(s)
	}
	for _, u := range m.units[:k] {
		switch u.what {
		case 'w':
			l[u.side] = append(l[u.side], u.b)
		case 'c':
			l[u.side] = nil
		case 't':
			l[u.side] = l[u.side][:u.n]
		}
	}
	return [2]string{string(l[0]), string(l[1])}
}

// now are the sides with all units.
func (m *model) now() [2]string {
	return m.sides(len(m.units))
}

// off reports whether the power is off.
func (m *model) off() bool {
	for _, end := range m.ends {
		if m.done >= end {
			return true
		}
	}
	return false
}

// first is the error that comes ahead of others.
func (m *model) first(side int) api.Errno {
	switch {
	case side != 0 && side != 1:
		return api.ErrArg
	case m.off():
		return api.ErrDown
	}
	return api.OK
}

// write is Write, as P16.1 has it.
func (m *model) write(side int, data string) api.Errno {
	if e := m.first(side); e != api.OK {
		return e
	}
	if len(m.now()[side])+len(data) > full {
		return api.ErrRoom
	}
	for _, b := range []byte(data) {
		m.units = append(m.units, unit{what: 'w', side: side, b: b})
	}
	m.done++
	return api.OK
}

// clear is Clear, as P16.1 has it.
func (m *model) clear(side int) api.Errno {
	if e := m.first(side); e != api.OK {
		return e
	}
	m.units = append(m.units, unit{what: 'c', side: side})
	m.done++
	return api.OK
}

// trim is Trim, as P16.1 has it.
func (m *model) trim(side, n int) api.Errno {
	if e := m.first(side); e != api.OK {
		return e
	}
	if n < 0 || n > len(m.now()[side]) {
		return api.ErrArg
	}
	m.units = append(m.units, unit{what: 't', side: side, n: n})
	m.done++
	return api.OK
}

// sync is Sync, as P16.1 has it.
func (m *model) sync() api.Errno {
	if m.off() {
		return api.ErrDown
	}
	m.synced, m.units = m.now(), nil
	m.done++
	return api.OK
}

// fuse is Fuse, as P16.2 has it.
func (m *model) fuse(n int) api.Errno {
	if n < 0 || n > most {
		return api.ErrArg
	}
	m.ends = append(m.ends, m.done+n)
	return api.OK
}

// kept is how many of so many units Crash(n) keeps, as P16.3 has it, in numbers of any size.
func kept(n, units int) int {
	x := big.NewInt(int64(n))
	if x.Sign() < 0 {
		x.Add(x, big.NewInt(1)).Neg(x)
	}
	return int(x.Mod(x, big.NewInt(int64(units)+1)).Int64())
}

// crash is Crash, as P16.3 has it.
func (m *model) crash(n int) {
	m.synced = m.sides(kept(n, len(m.units)))
	m.units, m.done, m.ends = nil, 0, nil
}

// pair is a tape and its model, of which the same is asked.
type pair struct {
	*testing.T
	x    *tape.Tape
	m    *model
	told string // what was asked so far
}

// started is a new tape, and its model.
func started(t *testing.T) *pair {
	return &pair{t, tape.New(), &model{}, ""}
}

// same tells if an answer isn't the model's, or if the tape is not as the model.
func (p *pair) same(told string, got, want api.Errno) {
	p.Helper()
	p.told += " " + told
	if got != want {
		p.Fatalf("%s = %v, want %v", p.told, got, want)
	}
	p.check()
}

// check tells if the tape is not as the model, by all that can be asked of it.
func (p *pair) check() {
	p.Helper()
	if got, want := p.x.Units(), len(p.m.units); got != want {
		p.Fatalf("%s: %d units, want %d", p.told, got, want)
	}
	now := p.m.now()
	for side := -1; side <= 2; side++ {
		want, e := "", p.m.first(side)
		if e == api.OK {
			want = now[side]
		}
		if got, f := p.x.Read(side); string(got) != want || f != e {
			p.Fatalf("%s: Read(%d) = %s, %v, want %s, %v", p.told, side, brief(string(got)), f, brief(want), e)
		}
	}
}

// brief is a text that can be read: the beginning of a long one.
func brief(s string) string {
	if len(s) <= 40 {
		return strconv.Quote(s)
	}
	return strconv.Quote(s[:40]) + " and more"
}

// write asks for Write, of a slice that is written over behind the call.
func (p *pair) write(side int, data string) {
	p.Helper()
	in := []byte(data)
	got := p.x.Write(side, in)
	clear(in[:cap(in)])
	p.same("w"+small(side)+brief(data), got, p.m.write(side, data))
}

func (p *pair) clear(side int) {
	p.Helper()
	p.same("c"+small(side), p.x.Clear(side), p.m.clear(side))
}

func (p *pair) trim(side, n int) {
	p.Helper()
	p.same("t"+small(side)+","+small(n), p.x.Trim(side, n), p.m.trim(side, n))
}

func (p *pair) sync() {
	p.Helper()
	p.same("s", p.x.Sync(), p.m.sync())
}

func (p *pair) fuse(n int) {
	p.Helper()
	p.same("f"+small(n), p.x.Fuse(n), p.m.fuse(n))
}

func (p *pair) crash(n int) {
	p.Helper()
	p.x.Crash(n)
	p.m.crash(n)
	p.same("x"+small(n), api.OK, api.OK)
}

// small is the text of a number.
func small(n int) string {
	return strconv.Itoa(n)
}

// is tells if an answer isn't the one that is spelt out.
func is(t *testing.T, got, want api.Errno) {
	t.Helper()
	if got != want {
		t.Errorf("%v, want %v", got, want)
	}
}

// has tells if a side isn't the one that is spelt out.
func has(t *testing.T, x *tape.Tape, side int, want string) {
	t.Helper()
	if got, e := x.Read(side); string(got) != want || e != api.OK {
		t.Errorf("Read(%d) = %s, %v, want %s", side, brief(string(got)), e, brief(want))
	}
}

// units tells if there are not so many unsynchronized units.
func units(t *testing.T, x *tape.Tape, want int) {
	t.Helper()
	if got := x.Units(); got != want {
		t.Errorf("%d units, want %d", got, want)
	}
}

// noSides are numbers of sides that there are not.
func noSides() []int {
	return []int{least, least + 1, -65536, -3, -2, -1, 2, 3, 4, 256, 65536, 1 << 32, 1<<32 + 1, great - 1, great}
}

// P16.1: the sides of a new tape are empty; nothing is unsynchronized, the power is on, and no fuse burns.
func TestNew(t *testing.T) {
	p := started(t)
	p.check()
	has(t, p.x, 0, "")
	has(t, p.x, 1, "")
	units(t, p.x, 0)
	for range 50 {
		p.sync()
	}
	for _, n := range []int{0, 1, -1, least, great} {
		started(t).crash(n)
	}
}

// P16.1: the examples of the chapter that have to do with the sides.
func TestExamples(t *testing.T) {
	x := tape.New()
	is(t, x.Write(0, []byte("abcd")), api.OK)
	is(t, x.Trim(0, 5), api.ErrArg)
	has(t, x, 0, "abcd")

	x = tape.New()
	is(t, x.Write(0, []byte("abc")), api.OK)
	is(t, x.Sync(), api.OK)
	is(t, x.Write(0, []byte("de")), api.OK)
	x.Crash(1)
	has(t, x, 0, "abcd")

	x = tape.New()
	is(t, x.Write(1, []byte("x")), api.OK)
	is(t, x.Clear(1), api.OK)
	is(t, x.Write(1, []byte("y")), api.OK)
	x.Crash(2)
	has(t, x, 1, "")

	x = tape.New()
	is(t, x.Fuse(1), api.OK)
	is(t, x.Write(0, []byte("x")), api.OK)
	is(t, x.Sync(), api.ErrDown)

	x = tape.New()
	is(t, x.Fuse(1), api.OK)
	is(t, x.Sync(), api.OK)
	is(t, x.Sync(), api.ErrDown)

	x = tape.New()
	is(t, x.Write(0, []byte("pqr")), api.OK)
	x.Crash(1)
	has(t, x, 0, "p")
}

// P16.1: what Write, Clear and Trim leave behind them, spelt out, and that each side is its own.
func TestSides(t *testing.T) {
	x := tape.New()
	is(t, x.Write(0, []byte("ab")), api.OK)
	is(t, x.Write(1, []byte("\x00\xff")), api.OK)
	is(t, x.Write(0, []byte("cde")), api.OK)
	has(t, x, 0, "abcde")
	has(t, x, 1, "\x00\xff")
	units(t, x, 7)
	is(t, x.Trim(0, 3), api.OK)
	has(t, x, 0, "abc")
	has(t, x, 1, "\x00\xff")
	units(t, x, 8)
	is(t, x.Write(0, []byte("z")), api.OK)
	has(t, x, 0, "abcz")
	units(t, x, 9)
	is(t, x.Clear(0), api.OK)
	has(t, x, 0, "")
	has(t, x, 1, "\x00\xff")
	units(t, x, 10)
	is(t, x.Write(0, []byte("y")), api.OK)
	has(t, x, 0, "y")
	is(t, x.Clear(1), api.OK)
	has(t, x, 0, "y")
	has(t, x, 1, "")
	units(t, x, 12)
	is(t, x.Sync(), api.OK)
	has(t, x, 0, "y")
	has(t, x, 1, "")
	units(t, x, 0)
}

// P16.1: sides that there are not, with the power on and off, with arguments that are right and that are not.
func TestNoSuchSide(t *testing.T) {
	for _, off := range []bool{false, true} {
		p := started(t)
		p.write(0, "abc")
		p.write(1, "d")
		if off {
			p.fuse(0)
		}
		for _, side := range noSides() {
			for _, n := range []int{least, -1, 0, 1, 3, 4, great} {
				is(t, p.x.Trim(side, n), api.ErrArg)
				p.trim(side, n)
			}
			is(t, p.x.Write(side, nil), api.ErrArg)
			is(t, p.x.Write(side, make([]byte, full+1)), api.ErrArg)
			p.write(side, "e")
			is(t, p.x.Clear(side), api.ErrArg)
			p.clear(side)
			if b, e := p.x.Read(side); b != nil || e != api.ErrArg {
				t.Errorf("Read(%d) = %v, %v", side, b, e)
			}
		}
		p.crash(great)
	}
}

// P16.1: with the power off all calls but Fuse, Crash and Units return ErrDown, also those that would return another
// error, and nothing is lost or won by them.
func TestPowerOff(t *testing.T) {
	p := started(t)
	p.write(0, "abc")
	p.write(1, strings.Repeat("x", full-1))
	p.sync()
	p.write(0, "d")
	p.fuse(0)
	for side := range 2 {
		is(t, p.x.Write(side, nil), api.ErrDown)
		is(t, p.x.Write(side, []byte("e")), api.ErrDown)
		is(t, p.x.Write(side, make([]byte, full+1)), api.ErrDown)
		is(t, p.x.Clear(side), api.ErrDown)
		for _, n := range []int{least, -1, 0, 1, 4, 5, full, full + 1, great} {
			is(t, p.x.Trim(side, n), api.ErrDown)
		}
		if b, e := p.x.Read(side); b != nil || e != api.ErrDown {
			t.Errorf("Read(%d) = %v, %v", side, b, e)
		}
	}
	is(t, p.x.Sync(), api.ErrDown)
	units(t, p.x, 1)
	p.check()
	p.crash(1)
	has(t, p.x, 0, "abcd")
}

// P16.1: Write of nothing, be it nil or empty: no unit, but a call that was executed; also on a side that is full.
func TestWriteOfNothing(t *testing.T) {
	for side := range 2 {
		for _, none := range [][]byte{nil, {}, make([]byte, 0, 9)} {
			x := tape.New()
			is(t, x.Write(side, none), api.OK)
			units(t, x, 0)
			has(t, x, side, "")
			is(t, x.Write(side, []byte("ab")), api.OK)
			is(t, x.Write(side, none), api.OK)
			units(t, x, 2)
			has(t, x, side, "ab")
			is(t, x.Fuse(2), api.OK)
			is(t, x.Write(side, none), api.OK)
			is(t, x.Write(side, none), api.OK)
			is(t, x.Write(side, none), api.ErrDown)
			x.Crash(1)
			has(t, x, side, "a")
			is(t, x.Write(side, make([]byte, full-1)), api.OK)
			is(t, x.Write(side, none), api.OK)
			units(t, x, full-1)
		}
	}
}

// bytesOf are n bytes that differ from their neighbours.
func bytesOf(n int) string {
	b := make([]byte, n)
	for i := range b {
		b[i] = byte(i*7 + i>>8)
	}
	return string(b)
}

// P16.1: bytes that just fill a side, at once and in parts, and one byte more.
func TestWriteToTheEnd(t *testing.T) {
	for side := range 2 {
		for _, parts := range [][]int{{full}, {full - 1, 1}, {1, full - 1}, {0, full, 0}, {32768, 32768}, {3, 65000, 533}} {
			x, all := tape.New(), bytesOf(full)
			done := 0
			for _, n := range parts {
				is(t, x.Write(side, []byte(all[done:])[:full-done:full-done]), api.OK)
				is(t, x.Trim(side, done), api.OK)
				is(t, x.Write(side, make([]byte, full+1-done)), api.ErrRoom)
				has(t, x, side, all[:done])
				is(t, x.Write(side, []byte(all[done:done+n])), api.OK)
				done += n
			}
			has(t, x, side, all)
			is(t, x.Write(side, []byte("x")), api.ErrRoom)
			is(t, x.Write(side, make([]byte, 2*full)), api.ErrRoom)
			has(t, x, side, all)
			has(t, x, 1-side, "")
			is(t, x.Write(1-side, []byte(all)), api.OK)
			is(t, x.Write(1-side, []byte("x")), api.ErrRoom)
			has(t, x, 1-side, all)
			has(t, x, side, all)
		}
	}
}

// P16.1: what is too much is not written in part, and has no units; what is cleared, trimmed or lost makes room again.
func TestRoom(t *testing.T) {
	for side := range 2 {
		x := tape.New()
		is(t, x.Write(side, make([]byte, full+1)), api.ErrRoom)
		units(t, x, 0)
		is(t, x.Write(side, make([]byte, full-2)), api.OK)
		is(t, x.Sync(), api.OK)
		is(t, x.Write(side, make([]byte, 3)), api.ErrRoom)
		is(t, x.Write(side, []byte("ab")), api.OK)
		is(t, x.Write(side, []byte("c")), api.ErrRoom)
		units(t, x, 2)
		x.Crash(1)
		is(t, x.Write(side, []byte("cd")), api.ErrRoom)
		is(t, x.Write(side, []byte("c")), api.OK)
		is(t, x.Trim(side, full-3), api.OK)
		is(t, x.Write(side, []byte("wxyz")), api.ErrRoom)
		is(t, x.Write(side, []byte("xyz")), api.OK)
		is(t, x.Clear(side), api.OK)
		is(t, x.Write(side, make([]byte, full+1)), api.ErrRoom)
		is(t, x.Write(side, make([]byte, full)), api.OK)
		units(t, x, 1+1+3+1+full)
		x.Crash(0)
		has(t, x, side, string(make([]byte, full-2))+"a")
	}
}

// P16.1: Clear of an empty side, and again, is a clearing each time.
func TestClear(t *testing.T) {
	for side := range 2 {
		p := started(t)
		for n := range 4 {
			p.clear(side)
			units(t, p.x, n+1)
		}
		p.write(side, "abc")
		p.write(1-side, "z")
		p.clear(side)
		p.clear(side)
		has(t, p.x, side, "")
		has(t, p.x, 1-side, "z")
		units(t, p.x, 10)
		p.write(side, "d")
		p.sync()
		p.clear(side)
		p.write(side, "e")
		has(t, p.x, side, "e")
		p.crash(1)
		has(t, p.x, side, "")
	}
}

// P16.1: Trim to each length, beyond, and to the ends of int.
func TestTrim(t *testing.T) {
	for side := range 2 {
		for size := range 6 {
			for n := -2; n <= size+2; n++ {
				p := started(t)
				p.write(side, "abcde"[:size])
				p.write(1-side, "pqrstuvwxyz")
				want := api.OK
				if n < 0 || n > size {
					want = api.ErrArg
				}
				is(t, p.x.Trim(side, n), want)
				p.m.trim(side, n)
				p.check()
				p.sync()
				p.trim(side, n)
				p.write(side, "z")
				p.crash(n)
			}
			p := started(t)
			p.write(side, "abcde"[:size])
			for _, n := range []int{least, least + 1, -1 << 32, size + 1, full - 1, full, full + 1, 1 << 32, great - 1, great} {
				is(t, p.x.Trim(side, n), api.ErrArg)
				p.check()
			}
			p.trim(side, size)
			p.trim(side, 0)
			p.trim(side, 0)
			p.trim(side, 1)
			units(t, p.x, size+3)
		}
	}
}

// P16.1: Trim of a side that is full.
func TestTrimOfMuch(t *testing.T) {
	for side := range 2 {
		x, all := tape.New(), bytesOf(full)
		is(t, x.Write(side, []byte(all)), api.OK)
		is(t, x.Sync(), api.OK)
		is(t, x.Trim(side, full+1), api.ErrArg)
		for i, n := range []int{full, full - 1, 40000, 40000, 1, 0, 0} {
			is(t, x.Trim(side, n), api.OK)
			has(t, x, side, all[:n])
			units(t, x, i+1)
		}
		x.Crash(3)
		has(t, x, side, all[:40000])
	}
}

// P16.1: Sync of nothing, and twice in a row.
func TestSync(t *testing.T) {
	p := started(t)
	p.sync()
	p.sync()
	p.write(0, "ab")
	p.sync()
	units(t, p.x, 0)
	p.sync()
	has(t, p.x, 0, "ab")
	p.write(1, "c")
	p.trim(0, 1)
	units(t, p.x, 2)
	p.sync()
	units(t, p.x, 0)
	p.sync()
	p.crash(0)
	has(t, p.x, 0, "a")
	has(t, p.x, 1, "c")
}

// P16.3: the units behind each call, of those that return errors too.
func TestUnits(t *testing.T) {
	x := tape.New()
	units(t, x, 0)
	x.Write(0, []byte("abcdef"))
	units(t, x, 6)
	x.Read(0)
	units(t, x, 6)
	x.Trim(0, 6)
	units(t, x, 7)
	x.Trim(0, 7)
	units(t, x, 7)
	x.Clear(1)
	units(t, x, 8)
	x.Clear(2)
	units(t, x, 8)
	x.Write(1, make([]byte, full))
	units(t, x, 8+full)
	x.Write(1, []byte("x"))
	units(t, x, 8+full)
	x.Clear(1)
	x.Write(1, make([]byte, full))
	units(t, x, 9+2*full)
	x.Fuse(7)
	units(t, x, 9+2*full)
	x.Fuse(0)
	units(t, x, 9+2*full)
	x.Sync()
	units(t, x, 9+2*full)
	x.Crash(8 + full + 3)
	units(t, x, 0)
	has(t, x, 0, "abcdef")
	has(t, x, 1, "\x00\x00")
	x.Trim(1, 0)
	units(t, x, 1)
	x.Sync()
	units(t, x, 0)
}

// crashes are numbers by which Crash may be called: each that keeps another number of so many units, negative ones,
// those beyond the units, and the ends of int.
func crashes(units int) []int {
	l := []int{least, least + 1, least + 2, -1 << 40, 1 << 40, great - 2, great - 1, great}
	for k := range units + 1 {
		round := units + 1
		l = append(l, k, -(k + 1), k+round, -(k+1)-round, k+1000*round, great-k, least+k)
	}
	return l
}

// P16.3: spelt out: a negative number counts as the one that is one less than its opposite, and each number by its
// remainder.
func TestCrashNumbers(t *testing.T) {
	for n, want := range map[int]string{
		0: "s", 1: "sa", 2: "sab", 3: "sabc", 4: "s", 5: "sa", 6: "sab", 7: "sabc", 8: "s",
		-1: "s", -2: "sa", -3: "sab", -4: "sabc", -5: "s", -6: "sa",
		great: "sabc", great - 1: "sab", great - 3: "s", least: "sabc", least + 1: "sab", least + 2: "sa", least + 3: "s",
	} {
		x := tape.New()
		is(t, x.Write(1, []byte("s")), api.OK)
		is(t, x.Sync(), api.OK)
		is(t, x.Write(1, []byte("a")), api.OK)
		is(t, x.Write(1, []byte("bc")), api.OK)
		x.Crash(n)
		has(t, x, 1, want)
		units(t, x, 0)
	}
}

// P16.3: what is there behind Crash is synchronized: further ones change nothing.
func TestCrashSynchronizes(t *testing.T) {
	for k := range 8 {
		p := started(t)
		p.write(0, "abc")
		p.clear(0)
		p.write(1, "d")
		p.trim(1, 1)
		p.write(0, "e")
		p.crash(k)
		now := p.m.now()
		for _, n := range crashes(2) {
			p.crash(n)
			if p.m.now() != now {
				t.Fatal(p.told)
			}
		}
		p.write(0, "fg")
		p.crash(0)
		p.write(0, "fg")
		p.crash(1)
		has(t, p.x, 0, now[0]+"f")
		has(t, p.x, 1, now[1])
	}
}

// P16.2: a fuse of each length: so many calls are executed, and none of those that follow.
func TestFuse(t *testing.T) {
	for n := range 9 {
		p := started(t)
		p.write(0, "ab")
		p.fuse(n)
		for i := range 12 {
			want := api.OK
			if i >= n {
				want = api.ErrDown
			}
			var got api.Errno
			switch i % 4 {
			case 0:
				got = p.x.Write(1, []byte("c"))
				p.m.write(1, "c")
			case 1:
				got = p.x.Trim(0, 1)
				p.m.trim(0, 1)
			case 2:
				got = p.x.Sync()
				p.m.sync()
			case 3:
				got = p.x.Clear(1)
				p.m.clear(1)
			}
			is(t, got, want)
			p.check()
		}
		p.crash(great)
		p.sync()
	}
}

// P16.2: numbers that a fuse may not have light none, and those that are great burn on.
func TestFuseNumbers(t *testing.T) {
	p := started(t)
	for _, n := range []int{least, least + 1, -65536, -2, -1, most + 1, most + 2, great - 1, great} {
		is(t, p.x.Fuse(n), api.ErrArg)
		p.fuse(n)
		p.write(0, "a")
	}
	for _, n := range []int{most, most - 1, 1 << 32, 1000} {
		is(t, p.x.Fuse(n), api.OK)
		p.fuse(n)
		p.sync()
	}
	p.fuse(2)
	p.sync()
	for _, n := range []int{least, -1, most + 1, great} {
		is(t, p.x.Fuse(n), api.ErrArg)
		p.fuse(n)
	}
	p.sync()
	is(t, p.x.Sync(), api.ErrDown)
	for _, n := range []int{least, -1, most + 1, great} {
		is(t, p.x.Fuse(n), api.ErrArg)
	}
	for _, n := range []int{0, 1, 5, most} {
		is(t, p.x.Fuse(n), api.OK)
		is(t, p.x.Sync(), api.ErrDown)
	}
	p.crash(0)
	p.sync()
}

// P16.2: of two fuses, lit one after the other with some calls between, the one that burns down first counts.
func TestTwoFuses(t *testing.T) {
	for a := range 7 {
		for between := range 7 {
			for b := range 7 {
				p := started(t)
				p.fuse(a)
				for range between {
					p.write(0, "x")
				}
				p.fuse(b)
				want := min(a, between) + max(0, min(a-between, b))
				done := len(p.m.units)
				for range 14 {
					if p.x.Write(0, []byte("y")) == api.OK {
						done++
					}
					p.m.write(0, "y")
					p.check()
				}
				if done != want {
					t.Fatalf("Fuse(%d), %d calls, Fuse(%d): %d calls were executed, want %d", a, between, b, done, want)
				}
				p.crash(a)
			}
		}
	}
}

// P16.2: several fuses at once, in every order; behind a crash none of them burns.
func TestSeveralFuses(t *testing.T) {
	for _, l := range [][]int{{3, 5, 9}, {9, 5, 3}, {5, 3, 9}, {5, 9, 3}, {3, 3, 3}, {most, 3, most}, {4, most, 3}} {
		p := started(t)
		for _, n := range l {
			p.fuse(n)
		}
		for range 3 {
			is(t, p.x.Write(1, nil), api.OK)
			p.m.write(1, "")
		}
		is(t, p.x.Write(1, nil), api.ErrDown)
		p.check()
		p.crash(0)
		for range 12 {
			p.sync()
		}
		p.fuse(1)
		p.sync()
		is(t, p.x.Sync(), api.ErrDown)
	}
}

// P16.2: Crash puts out a fuse that burns, and the calls ahead of it don't count for the next one.
func TestCrashPutsOut(t *testing.T) {
	for n := range 5 {
		p := started(t)
		p.fuse(n)
		for range n / 2 {
			p.sync()
		}
		p.crash(n)
		for range 10 {
			p.sync()
		}
		p.fuse(2)
		p.write(0, "a")
		p.write(0, "b")
		is(t, p.x.Clear(0), api.ErrDown)
		p.crash(2)
		has(t, p.x, 0, "ab")
	}
}

// P16.2: calls that return an error, Read, Units and Fuse don't count.
func TestFuseBesideErrors(t *testing.T) {
	p := started(t)
	p.write(1, strings.Repeat("z", full))
	p.write(0, "abc")
	p.fuse(3)
	vain := func() {
		for range 5 {
			is(t, p.x.Write(1, []byte("x")), api.ErrRoom)
			is(t, p.x.Write(0, make([]byte, full)), api.ErrRoom)
			is(t, p.x.Write(2, nil), api.ErrArg)
			is(t, p.x.Clear(-1), api.ErrArg)
			is(t, p.x.Trim(0, -1), api.ErrArg)
			is(t, p.x.Trim(0, full+1), api.ErrArg)
			is(t, p.x.Trim(2, 0), api.ErrArg)
			is(t, p.x.Fuse(-1), api.ErrArg)
			is(t, p.x.Fuse(most+1), api.ErrArg)
			is(t, p.x.Fuse(most), api.OK)
			p.check()
		}
	}
	vain()
	p.sync()
	vain()
	p.trim(0, 1)
	vain()
	p.write(0, "d")
	is(t, p.x.Write(0, nil), api.ErrDown)
	is(t, p.x.Sync(), api.ErrDown)
	p.crash(2)
	has(t, p.x, 0, "ad")
}

// P16.1: the power goes off behind a Sync that was the last call of a fuse: it did synchronize.
func TestSyncAsTheLast(t *testing.T) {
	x := tape.New()
	is(t, x.Write(0, []byte("abc")), api.OK)
	is(t, x.Fuse(1), api.OK)
	is(t, x.Sync(), api.OK)
	units(t, x, 0)
	x.Crash(0)
	has(t, x, 0, "abc")

	is(t, x.Write(0, []byte("de")), api.OK)
	is(t, x.Fuse(0), api.OK)
	is(t, x.Sync(), api.ErrDown)
	units(t, x, 2)
	x.Crash(0)
	has(t, x, 0, "abc")
}

// P16.1: a tape answers the same, however its bytes are cut into calls of Write.
func TestPartsOfWrites(t *testing.T) {
	data := "abcdefgh"
	for cuts := range 1 << (len(data) - 1) {
		for k := range len(data) + 1 {
			x, last := tape.New(), 0
			for i := 1; i <= len(data); i++ {
				if i == len(data) || cuts>>(i-1)&1 == 1 {
					is(t, x.Write(0, []byte(data[last:i])), api.OK)
					last = i
				}
			}
			units(t, x, len(data))
			x.Crash(k)
			has(t, x, 0, data[:k])
		}
	}
}

// R6: the errors of the tape are those of package api, with their texts.
func TestErrors(t *testing.T) {
	x := tape.New()
	x.Fuse(0)
	l := []string{x.Sync().Error(), x.Clear(2).Error()}
	x.Crash(0)
	l = append(l, x.Write(0, make([]byte, full+1)).Error())
	if want := []string{"error 40", "error 1", "error 42"}; !slices.Equal(l, want) {
		t.Error(l)
	}
}
