package tape_test

import (
	"math/rand"
	"strings"
	"testing"

	"livery/api"
	"livery/tape"
)

// call is a call that may change a tape.
type call struct {
	what byte // 'w', 'c', 't', 's', 'f', 'x'
	side int
	data string // of 'w'
	n    int    // of 't', 'f' and 'x'
}

// made calls it.
func (c call) made(p *pair) {
	p.Helper()
	switch c.what {
	case 'w':
		p.write(c.side, c.data)
	case 'c':
		p.clear(c.side)
	case 't':
		p.trim(c.side, c.n)
	case 's':
		p.sync()
	case 'f':
		p.fuse(c.n)
	case 'x':
		p.crash(c.n)
	}
}

// fewCalls are calls that have units, on both sides.
func fewCalls() []call {
	return []call{
		{'w', 0, "a", 0}, {'w', 0, "bcd", 0}, {'w', 1, "ef", 0},
		{'c', 0, "", 0}, {'c', 1, "", 0},
		{'t', 0, "", 0}, {'t', 0, "", 1}, {'t', 0, "", 2}, {'t', 1, "", 1},
	}
}

// sequences calls do with all sequences of so many of the calls.
func sequences(calls []call, size int, do func([]call)) {
	l := make([]call, size)
	var fill func(int)
	fill = func(i int) {
		if i == size {
			do(l)
			return
		}
		for _, c := range calls {
			l[i] = c
			fill(i + 1)
		}
	}
	fill(0)
}

// begun is a tape with something on both sides, synchronized, behind which the calls were made.
func begun(t *testing.T, calls []call) *pair {
	p := started(t)
	p.write(0, "PQ")
	p.write(1, "R")
	p.sync()
	for _, c := range calls {
		c.made(p)
	}
	return p
}

// P16.3: writes, clearings and trimmings in every order, and each number of their units that is kept.
func TestCrashOfEverySequence(t *testing.T) {
	for size := range 5 {
		sequences(fewCalls(), size, func(l []call) {
			for k := 0; k <= len(begun(t, l).m.units); k++ {
				p := begun(t, l)
				want := p.m.sides(k)
				p.crash(k)
				has(t, p.x, 0, want[0])
				has(t, p.x, 1, want[1])
			}
		})
	}
}

// P16.3: by all other numbers, behind shorter sequences.
func TestCrashByEveryNumber(t *testing.T) {
	sequences(fewCalls(), 2, func(l []call) {
		for _, n := range crashes(len(begun(t, l).m.units)) {
			p := begun(t, l)
			p.crash(n)
			p.write(0, "S")
			p.crash(n)
		}
	})
}

// P16.3: a tape goes on behind a crash as any other one: what was undone has left nothing.
func TestCrashAndOn(t *testing.T) {
	few := []call{{'w', 0, "ab", 0}, {'c', 0, "", 0}, {'t', 0, "", 1}, {'s', 0, "", 0}}
	sequences(few, 3, func(before []call) {
		sequences(few, 2, func(behind []call) {
			for k := 0; k <= len(begun(t, before).m.units); k++ {
				p := begun(t, before)
				p.crash(k)
				for _, c := range behind {
					c.made(p)
				}
				p.crash(1)
				p.write(0, "z")
				p.crash(1)
			}
		})
	})
}

// P16.4: what was synchronized is present behind every crash, unless something was cleared or trimmed since; and what was
// written since is present up to some byte.
func TestSynchronizedStays(t *testing.T) {
	writes := []call{{'w', 0, "a", 0}, {'w', 0, "bcd", 0}, {'w', 1, "ef", 0}, {'w', 1, "", 0}, {'w', 1, "g", 0}}
	sequences(writes, 4, func(l []call) {
		var written [2]string
		all := 0
		for _, c := range l {
			written[c.side] += c.data
			all += len(c.data)
		}
		for n := -all - 1; n <= all; n++ {
			p := begun(t, l)
			p.x.Crash(n)
			left := 0
			for side, synced := range []string{"PQ", "R"} {
				b, e := p.x.Read(side)
				rest, whole := strings.CutPrefix(string(b), synced)
				if e != api.OK || !whole || !strings.HasPrefix(written[side], rest) {
					t.Fatalf("%s, Crash(%d): %q on side %d, %v", p.told, n, b, side, e)
				}
				left += len(rest)
			}
			if want := max(n, -n-1); left != want {
				t.Fatalf("%s, Crash(%d): %d bytes of those that were written, want %d", p.told, n, left, want)
			}
		}
	})
}

// P16.4: of a side of which something was cleared or trimmed since, the other one has all that was synchronized.
func TestOtherSideStays(t *testing.T) {
	for side, there := range []string{"PQ", "R"} {
		calls := []call{{'w', 1 - side, "ab", 0}, {'c', 1 - side, "", 0}, {'t', 1 - side, "", 0}, {'t', 1 - side, "", 1}}
		sequences(calls, 4, func(l []call) {
			for k := 0; k <= len(begun(t, l).m.units); k++ {
				p := begun(t, l)
				p.crash(k)
				has(t, p.x, side, there)
			}
		})
	}
}

// P16.4: a side that is full, with many bytes, of which each number may be kept.
func TestMuchIsKept(t *testing.T) {
	all := bytesOf(full)
	for _, synced := range []int{0, 1, 1000, full - 1, full} {
		for _, k := range []int{0, 1, 2, 63, 64, 4096, full - synced - 1, full - synced, great, least} {
			p := started(t)
			is(t, p.x.Write(0, []byte(all[:synced])), api.OK)
			is(t, p.x.Sync(), api.OK)
			is(t, p.x.Write(0, []byte(all[synced:])), api.OK)
			units(t, p.x, full-synced)
			p.x.Crash(k)
			has(t, p.x, 0, all[:synced+kept(k, full-synced)])
		}
	}
}

// P16.5: a crash that keeps everything changes nothing: the tape goes on as one that did not crash.
func TestCrashThatKeepsAll(t *testing.T) {
	on := []call{{'w', 0, "zz", 0}, {'t', 0, "", 1}, {'w', 1, "y", 0}, {'t', 1, "", 2}, {'c', 0, "", 0}, {'w', 0, "x", 0}}
	sequences(append(fewCalls(), call{'s', 0, "", 0}), 3, func(l []call) {
		size := len(begun(t, l).m.units)
		for _, n := range []int{size, -(size + 1), size + 3*(size+1), -(size + 1) - (size + 1)} {
			p, q := begun(t, l), begun(t, l)
			q.x.Crash(n)
			units(t, q.x, 0)
			for _, c := range on {
				same(p, q)
				is(t, answer(q.x, c), answer(p.x, c))
			}
			same(p, q)
		}
	})
}

// same tells if the sides of two tapes differ.
func same(p, q *pair) {
	p.Helper()
	for side := range 2 {
		a, e := p.x.Read(side)
		b, f := q.x.Read(side)
		if string(a) != string(b) || e != f {
			p.Fatalf("%s: %q, %v, and %q, %v behind a crash that keeps everything", p.told, a, e, b, f)
		}
	}
}

// answer makes a call of the tape alone.
func answer(x *tape.Tape, c call) api.Errno {
	switch c.what {
	case 'w':
		return x.Write(c.side, []byte(c.data))
	case 'c':
		return x.Clear(c.side)
	case 't':
		return x.Trim(c.side, c.n)
	case 's':
		return x.Sync()
	case 'f':
		return x.Fuse(c.n)
	}
	x.Crash(c.n)
	return api.OK
}

// P16.1, P16.2, P16.3: all sequences of five of a few calls, fuses and crashes among them.
func TestAllShortSequences(t *testing.T) {
	calls := []call{
		{'w', 0, "ab", 0}, {'w', 1, "c", 0}, {'c', 0, "", 0}, {'t', 0, "", 1}, {'s', 0, "", 0},
		{'f', 0, "", 1}, {'f', 0, "", 2}, {'x', 0, "", 1}, {'x', 0, "", -3},
	}
	sequences(calls, 5, func(l []call) {
		p := started(t)
		for _, c := range l {
			c.made(p)
		}
		p.crash(len(l))
	})
}

// letters are n letters by chance.
func letters(r *rand.Rand, n int) string {
	b := make([]byte, n)
	for i := range b {
		b[i] = byte('a' + r.Intn(26))
	}
	return string(b)
}

// chosen is a call by chance, of which some return errors.
func chosen(r *rand.Rand, length int) call {
	side := r.Intn(2)
	if r.Intn(30) == 0 {
		side = noSides()[r.Intn(len(noSides()))]
	}
	switch n := r.Intn(40); {
	case n < 20:
		return call{'w', side, letters(r, r.Intn(12)), 0}
	case n < 24:
		return call{'w', side, letters(r, r.Intn(300)), 0}
	case n < 26:
		return call{'c', side, "", 0}
	case n < 32:
		return call{'t', side, "", r.Intn(length+3) - 1}
	case n < 36:
		return call{'s', 0, "", 0}
	case n < 38:
		return call{'f', 0, "", r.Intn(40) - 1}
	}
	return call{'x', 0, "", int(r.Uint64()) >> r.Intn(64)}
}

// P16.1, P16.2, P16.3: long sequences of calls, with fuses and crashes.
func TestLongSequences(t *testing.T) {
	for seed := range int64(30) {
		r := rand.New(rand.NewSource(160 + seed))
		p := started(t)
		for range 700 {
			p.told = ""
			chosen(r, len(p.m.now()[r.Intn(2)])).made(p)
			if p.m.off() && r.Intn(3) == 0 {
				p.crash(r.Intn(100))
			}
		}
	}
}

// P16.1: sides that are nearly full, where many calls return ErrRoom.
func TestNearlyFull(t *testing.T) {
	for seed := range int64(3) {
		r := rand.New(rand.NewSource(1600 + seed))
		p := started(t)
		p.write(0, bytesOf(full-100))
		p.write(1, bytesOf(full-20))
		p.sync()
		for range 120 {
			p.told = ""
			switch side := r.Intn(2); r.Intn(8) {
			case 0:
				p.trim(side, full-100+r.Intn(103)-1)
			case 1:
				p.sync()
			case 2:
				p.crash(r.Int())
			default:
				p.write(side, bytesOf(r.Intn(60)))
			}
		}
	}
}
