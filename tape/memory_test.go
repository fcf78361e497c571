package tape_test

import (
	"bytes"
	"math/rand"
	"slices"
	"strings"
	"sync"
	"testing"

	"livery/api"
	"livery/tape"
)

// overwrite writes to all that a slice has, its spare room included.
func overwrite(b []byte) {
	b = b[:cap(b)]
	for i := range b {
		b[i] ^= 170
	}
}

// R4: what is handed in stays as it is, with what lies about it, whatever Write answers and whatever follows.
func TestArgumentsStay(t *testing.T) {
	for _, size := range []int{0, 1, 5, 100, full, full + 1} {
		whole := []byte(bytesOf(size + 40))
		before := bytes.Clone(whole)
		data := whole[20 : 20+size]
		x := tape.New()
		for side := range 4 {
			x.Write(side-1, data)
		}
		x.Trim(0, min(size, 1))
		x.Write(0, []byte("zz"))
		x.Crash(size + 1)
		x.Write(0, []byte("zz"))
		x.Write(1, []byte("zz"))
		x.Clear(1)
		x.Fuse(0)
		x.Write(0, data)
		if !bytes.Equal(whole, before) {
			t.Errorf("%d bytes: the argument, or what lies about it, was changed", size)
		}
	}
}

// R4: what was handed in may be written over: the tape has what it was, also behind a crash.
func TestArgumentsAreNotKept(t *testing.T) {
	for _, size := range []int{1, 5, 100, full / 2} {
		for _, synced := range []bool{false, true} {
			for _, k := range []int{0, 1, size / 2, size, 2 * size} {
				x, want := tape.New(), bytesOf(size)
				data := []byte(want)
				is(t, x.Write(0, data), api.OK)
				overwrite(data)
				if synced {
					is(t, x.Sync(), api.OK)
				}
				data = append(data[:0], want...)
				is(t, x.Write(0, data), api.OK)
				overwrite(data)
				has(t, x, 0, want+want)
				left := kept(k, x.Units())
				if synced {
					left += size
				}
				x.Crash(k)
				has(t, x, 0, (want + want)[:left])
			}
		}
	}
}

// R4: one buffer that is used for all calls of Write.
func TestOneBuffer(t *testing.T) {
	x, want := tape.New(), ""
	buffer := make([]byte, 0, 16)
	for i := range 200 {
		buffer = append(buffer[:0], bytesOf(i%16)...)
		is(t, x.Write(i%2, buffer), api.OK)
		if i%2 == 0 {
			want += bytesOf(i % 16)
		}
	}
	has(t, x, 0, want)
	x.Crash(x.Units())
	has(t, x, 0, want)
}

// R4: what Read returns shares no memory, spare room included, with the tape or with what it returned before.
func TestResultsAreNew(t *testing.T) {
	sequences(append(fewCalls(), call{'s', 0, "", 0}), 3, func(l []call) {
		p := begun(t, l)
		for side, want := range p.m.now() {
			first, _ := p.x.Read(side)
			second, _ := p.x.Read(side)
			overwrite(first)
			_ = append(first, "zzzzzzzz"...)
			if string(second) != want {
				t.Fatalf("%s: two results share memory", p.told)
			}
			p.check()
		}
		p.write(0, "uvw")
		p.crash(2)
	})
}

// R4: a result that is written over behind each call changes nothing.
func TestChangesOfResultsDoNotCount(t *testing.T) {
	r := rand.New(rand.NewSource(161))
	p := started(t)
	for range 1500 {
		p.told = ""
		chosen(r, len(p.m.now()[0])).made(p)
		for side := range 2 {
			b, _ := p.x.Read(side)
			overwrite(b)
		}
		if p.m.off() {
			p.crash(r.Int())
		}
	}
}

// R4: what was returned stays as it is while the tape goes on.
func TestResultsStay(t *testing.T) {
	r := rand.New(rand.NewSource(162))
	for range 40 {
		p := started(t)
		p.write(0, bytesOf(r.Intn(100)))
		p.sync()
		p.write(0, bytesOf(r.Intn(100)))
		b, _ := p.x.Read(0)
		b = b[:cap(b)]
		before := bytes.Clone(b)
		for range 60 {
			p.told = ""
			chosen(r, len(p.m.now()[0])).made(p)
			if p.m.off() {
				p.crash(r.Int())
			}
			if !bytes.Equal(b, before) {
				t.Fatal("a result has changed")
			}
		}
	}
}

// P16.1: what is written behind a Trim or a Clear doesn't change what was synchronized.
func TestWrittenOver(t *testing.T) {
	for size := range 20 {
		for n := range size + 1 {
			p := started(t)
			p.write(0, bytesOf(size))
			p.sync()
			p.trim(0, n)
			p.write(0, strings.Repeat("x", 30))
			p.trim(0, n)
			p.write(0, strings.Repeat("y", 10))
			p.crash(0)
			has(t, p.x, 0, bytesOf(size))
			p.clear(0)
			p.write(0, strings.Repeat("z", size))
			p.crash(-1)
			has(t, p.x, 0, bytesOf(size))
		}
	}
}

// R4: two tapes share nothing, also where they are handed the same.
func TestTwoTapes(t *testing.T) {
	r := rand.New(rand.NewSource(163))
	p, q, idle := started(t), started(t), started(t)
	data := []byte(bytesOf(40))
	for _, x := range []*pair{p, q} {
		is(t, x.x.Write(0, data), api.OK)
		x.m.write(0, bytesOf(40))
	}
	for range 300 {
		p.told, q.told = "", ""
		chosen(r, 40).made(p)
		q.check()
		chosen(r, 40).made(q)
		p.check()
		idle.check()
	}
}

// R2: calls that return an error change nothing, however often they are made: a tape goes on as one that was asked none.
func TestVainCallsChangeNothing(t *testing.T) {
	for seed := range int64(10) {
		r := rand.New(rand.NewSource(1640 + seed))
		vain, quiet := started(t), tape.New()
		for range 150 {
			vain.told = ""
			c := chosen(r, len(vain.m.now()[0]))
			is(t, answer(quiet, c), answer(vain.x, c))
			answerModel(vain.m, c)
			for _, n := range noSides() {
				vain.x.Write(n, []byte("x"))
				vain.x.Clear(n)
				vain.x.Trim(n, 0)
				vain.x.Read(n)
			}
			for side, s := range vain.m.now() {
				vain.x.Write(side, make([]byte, full+1-len(s)))
				vain.x.Trim(side, len(s)+1)
				vain.x.Trim(side, -1)
			}
			vain.x.Fuse(-1)
			vain.x.Fuse(most + 1)
			vain.check()
		}
		vain.x.Crash(3)
		quiet.Crash(3)
		for side := range 2 {
			b, _ := quiet.Read(side)
			has(t, vain.x, side, string(b))
		}
	}
}

// answerModel makes a call of the model alone.
func answerModel(m *model, c call) {
	switch c.what {
	case 'w':
		m.write(c.side, c.data)
	case 'c':
		m.clear(c.side)
	case 't':
		m.trim(c.side, c.n)
	case 's':
		m.sync()
	case 'f':
		m.fuse(c.n)
	case 'x':
		m.crash(c.n)
	}
}

// R1: calls by the ends of int, in every order, end and don't panic; many units that were never synchronized.
func TestManyCalls(t *testing.T) {
	ends := []int{least, least + 1, -1, 0, 1, 2, most, most + 1, great - 1, great}
	x := tape.New()
	for _, side := range ends {
		for _, n := range ends {
			x.Write(side, []byte("ab"))
			x.Trim(side, n)
			x.Fuse(n)
			x.Read(side)
			x.Sync()
			x.Crash(n)
			x.Clear(side)
			x.Write(side, []byte("ab"))
			x.Crash(n)
		}
	}
	x = tape.New()
	for i := range 100000 {
		if i%20000 == 0 {
			is(t, x.Clear(i/20000%2), api.OK)
		}
		is(t, x.Write(i/20000%2, []byte{byte(i)}), api.OK)
	}
	units(t, x, 100005)
	x.Crash(100004)
	for side, size := range []int{19999, 20000} {
		if b, e := x.Read(side); len(b) != size || e != api.OK {
			t.Error(side, len(b), e)
		}
	}
}

// answers are what a long sequence of calls returns.
func answers() []string {
	r := rand.New(rand.NewSource(165))
	x := tape.New()
	var all []string
	for range 1000 {
		e := answer(x, chosen(r, 50))
		a, f := x.Read(0)
		b, g := x.Read(1)
		all = append(all, e.Error(), string(a), f.Error(), string(b), g.Error(), small(x.Units()))
	}
	return all
}

// R5: the same calls answer the same each time, from whichever goroutine.
func TestAgain(t *testing.T) {
	want := answers()
	var group sync.WaitGroup
	for range 8 {
		group.Go(func() {
			for range 3 {
				if !slices.Equal(answers(), want) {
					t.Error("other answers")
				}
			}
		})
	}
	group.Wait()
}
