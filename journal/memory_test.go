package journal_test

import (
	"bytes"
	"math/rand"
	"slices"
	"strconv"
	"sync"
	"testing"

	"livery/api"
	"livery/journal"
	"livery/tape"
)

// overwrite writes to all that a slice has, its spare room included.
func overwrite(b []byte) {
	b = b[:cap(b)]
	for i := range b {
		b[i] ^= 170
	}
}

// overwriteAll writes to all that a list and its elements have, their spare room included.
func overwriteAll(l [][]byte) {
	for _, b := range l {
		overwrite(b)
	}
	l = l[:cap(l)]
	for i := range l {
		l[i] = []byte("overwritten")
	}
}

// parted is one string of bytes, and records that are parts of it, with other bytes between them.
func parted(l []string) ([]byte, [][]byte) {
	var whole []byte
	for _, s := range l {
		whole = append(whole, "between"...)
		whole = append(whole, s...)
	}
	whole = append(whole, "behind all of them"...)
	list := make([][]byte, 0, len(l)+3)
	place := 0
	for _, s := range l {
		place += len("between")
		list = append(list, whole[place:place+len(s)])
		place += len(s)
	}
	list = append(list, []byte("one"), []byte("two"), []byte("three"))[:len(l)]
	return whole, list
}

// R4: what is handed in stays as it is, with what lies about it, whatever is answered and whatever follows.
func TestArgumentsStay(t *testing.T) {
	lists := [][]string{nil, {"a"}, {"bc", "def", "g"}, {long(body), "h"}, {""}, {"i", ""}, {long(body + 1)}, slices.Repeat([]string{long(body)}, 8), ones(many + 1)}
	for _, l := range lists {
		whole, list := parted(l)
		before, deep := bytes.Clone(whole), copiedAll(list[:cap(list)])
		x := tape.New()
		j := opens(t, "an empty tape", x)
		for _, down := range []bool{false, false, true, true} {
			if down {
				x.Fuse(1)
			}
			for _, r := range list {
				j.Append(r)
			}
			j.Renew(list)
			j.Append([]byte("on"))
			j.Renew([][]byte{[]byte("on")})
			overwriteAll(j.Records())
		}
		x.Crash(3)
		opens(t, "again", x).Renew(list)
		if !bytes.Equal(whole, before) || !slices.EqualFunc(list[:cap(list)], deep, bytes.Equal) {
			t.Errorf("%s: the argument, or what lies about it, was changed", briefs(l))
		}
	}
}

// copiedAll is a list with new memory.
func copiedAll(l [][]byte) [][]byte {
	var c [][]byte
	for _, b := range l {
		c = append(c, bytes.Clone(b))
	}
	return c
}

// R4: what was handed in may be written over: the journal has what it was, now and when it is opened again.
func TestArgumentsAreNotKept(t *testing.T) {
	for _, l := range [][]string{{"a"}, {"bc", "def", "g"}, {long(body), "h", long(300)}, ones(100)} {
		x := tape.New()
		j := opens(t, "an empty tape", x)
		whole, list := parted(l)
		for _, r := range list {
			is(t, "append", j.Append(r), api.OK)
		}
		overwrite(whole)
		has(t, "appended", j, 1, 7+len(frames(l...)), l...)
		whole, list = parted(l)
		is(t, "renew", j.Renew(list), api.OK)
		overwrite(whole)
		overwriteAll(list)
		has(t, "renewed", j, 2, len(side(2, l...)), l...)
		is(t, "append", j.Append([]byte("on")), api.OK)
		want := append(slices.Clone(l), "on")
		has(t, "appended behind that", j, 2, len(side(2, l...))+6, want...)
		has(t, "opened again", opens(t, "again", x), 2, len(side(2, l...))+6, want...)
	}
}

// R4: one buffer that is used for all calls.
func TestOneBuffer(t *testing.T) {
	x := tape.New()
	j := opens(t, "an empty tape", x)
	buffer := make([]byte, 0, 16)
	var want []string
	for i := range 200 {
		buffer = append(buffer[:0], long(1+i%16)...)
		if i%50 == 49 {
			is(t, "renew", j.Renew([][]byte{buffer, buffer[:1], buffer}), api.OK)
			want = []string{string(buffer), string(buffer[:1]), string(buffer)}
			continue
		}
		is(t, "append", j.Append(buffer), api.OK)
		want = append(want, string(buffer))
	}
	clear(buffer)
	has(t, "one buffer", j, 5, j.Size(), want...)
	has(t, "opened again", opens(t, "again", x), 5, j.Size(), want...)
}

// journals are journals that got their records in every way.
func journals(t *testing.T) map[string]*journal.Journal {
	t.Helper()
	all := map[string]*journal.Journal{}
	l := []string{"a", "bcd", long(100), "e"}
	j := opens(t, "an empty tape", tape.New())
	for _, s := range l {
		j.Append([]byte(s))
	}
	all["appended"] = j
	j = opens(t, "an empty tape", tape.New())
	j.Renew(listed(l))
	all["renewed"] = j
	all["opened"] = opens(t, "a side", laid(side(3, l...), ""))
	all["trimmed"] = opens(t, "a torn side", laid("", side(3, l...)+text(0, 9)))
	j = opens(t, "a side", laid(side(3, l[:2]...), ""))
	j.Append([]byte(l[2]))
	j.Append([]byte(l[3]))
	all["opened and appended"] = j
	x := laid(side(3, l...), "")
	x.Fuse(1)
	j = opens(t, "a side", x)
	j.Append([]byte("more"))
	all["broken"] = j
	return all
}

// R4: what Records returned shares no memory, spare room included, with the journal, with what it returned before, or in itself.
func TestResultsAreNew(t *testing.T) {
	want := []string{"a", "bcd", long(100), "e"}
	for told, j := range journals(t) {
		first, second := j.Records(), j.Records()
		for i, r := range first {
			overwrite(r)
			_ = append(r, "zzzzzzzz"...)
			copy(r, want[i])
			if !slices.EqualFunc(first, listed(want), bytes.Equal) {
				t.Errorf("%s: two records of a result share memory", told)
			}
		}
		overwriteAll(first)
		_ = append(first[:0], []byte("x"), []byte("y"), []byte("z"), []byte("u"), []byte("v"))
		if !slices.EqualFunc(second, listed(want), bytes.Equal) {
			t.Errorf("%s: two results share memory", told)
		}
		has(t, told, j, j.Generation(), j.Size(), want...)
		overwriteAll(second)
		has(t, told, j, j.Generation(), j.Size(), want...)
		if told != "broken" {
			is(t, told, j.Append([]byte("on")), api.OK)
			has(t, told, j, j.Generation(), j.Size(), append(slices.Clone(want), "on")...)
		}
	}
}

// R4: what was returned stays as it is while the journal goes on.
func TestResultsStay(t *testing.T) {
	for told, j := range journals(t) {
		l := j.Records()
		l = l[:cap(l)]
		before := copiedAll(l)
		spare := slices.Clone(l[0][:cap(l[0])])
		for i := range 60 {
			j.Append([]byte("more"))
			if i%20 == 19 {
				j.Renew(listed([]string{"x", "y"}))
			}
			overwriteAll(j.Records())
		}
		if !slices.EqualFunc(l, before, bytes.Equal) || !bytes.Equal(l[0][:cap(l[0])], spare) {
			t.Errorf("%s: a result has changed", told)
		}
	}
}

// R4: a journal's own records, handed in again, and those of another one.
func TestRecordsAgain(t *testing.T) {
	for told, j := range journals(t) {
		want := records(j)
		l := j.Records()
		other := opens(t, "an empty tape", tape.New())
		is(t, told, other.Renew(l), api.OK)
		if told != "broken" {
			is(t, told, j.Renew(l), api.OK)
		}
		overwriteAll(l)
		has(t, told, other, 2, other.Size(), want...)
		has(t, told, j, j.Generation(), j.Size(), want...)
	}
}

// R4: nil and empty are the same.
func TestNilAndEmpty(t *testing.T) {
	x, y := tape.New(), tape.New()
	j, k := opens(t, "nil", x), opens(t, "empty", y)
	for range 3 {
		is(t, "nil", j.Append(nil), api.ErrArg)
		is(t, "empty", k.Append([]byte{}), api.ErrArg)
		is(t, "none of some room", k.Append(make([]byte, 0, 9)), api.ErrArg)
		is(t, "a record of nil", j.Renew([][]byte{nil}), api.ErrArg)
		is(t, "an empty record", k.Renew([][]byte{{}}), api.ErrArg)
		is(t, "nil", j.Renew(nil), api.OK)
		is(t, "empty", k.Renew(make([][]byte, 0, 5)), api.OK)
		if left(x) != left(y) || j.Size() != k.Size() || len(j.Records()) != 0 || len(k.Records()) != 0 {
			t.Errorf("%s and %s", left(x).told(), left(y).told())
		}
		is(t, "append", j.Append([]byte("a")), api.OK)
		is(t, "append", k.Append([]byte("a")), api.OK)
	}
}

// R4: two journals on two tapes share nothing, also where they are handed the same.
func TestTwoJournals(t *testing.T) {
	r := rand.New(rand.NewSource(177))
	p, q, idle := open(t, "", ""), open(t, "", ""), open(t, side(2, "idle")+text(0), "")
	same := []byte("same")
	for _, x := range []*pair{p, q} {
		is(t, "the same", x.j.Append(same), api.OK)
		x.m.append("same")
		is(t, "the same", x.j.Renew([][]byte{same, same}), api.OK)
		x.m.renew([]string{"same", "same"})
	}
	for range 200 {
		p.told, q.told = "", ""
		chosen(r).done(p)
		q.check()
		chosen(r).done(q)
		p.check()
		idle.check()
	}
}

// R2: calls that return an error change nothing, however often they are made: a journal goes on as one that was asked none.
func TestVainCallsChangeNothing(t *testing.T) {
	for seed := range int64(4) {
		r := rand.New(rand.NewSource(1780 + seed))
		x, y := tape.New(), tape.New()
		vain, quiet := opens(t, "vain", x), opens(t, "quiet", y)
		for range 60 {
			d := chosen(r)
			is(t, "a deed", d.on(vain), d.on(quiet))
			vain.Append(nil)
			vain.Append(make([]byte, body+1))
			vain.Renew([][]byte{[]byte("a"), nil})
			vain.Renew(listed(ones(many + 1)))
			vain.Renew(listed(slices.Repeat([]string{long(body)}, 8)))
			if free := room - vain.Size(); free < body+4 {
				is(t, "no room", vain.Append(make([]byte, max(1, free-3))), api.ErrRoom)
			}
			if left(x) != left(y) || x.Units() != 0 {
				t.Fatalf("%s and %s", left(x).told(), left(y).told())
			}
			has(t, "vain", vain, quiet.Generation(), quiet.Size(), records(quiet)...)
		}
	}
}

// R2: Open of what is no journal changes nothing, however often it is called.
func TestVainOpen(t *testing.T) {
	for _, s := range []state{{text(0, 0), ""}, {side(1) + text(0, 0), ""}, {side(1), side(1)}, {frame("a") + text(0), text(0)}, {frame(head(1, 1)), text(0, 1)}} {
		x := s.tape()
		x.Fuse(1)
		for range 3 {
			if j, e := journal.Open(x); j != nil || e != api.ErrCorrupt {
				t.Errorf("%s: %v", s.told(), e)
			}
		}
		if left(x) != s || x.Units() != 0 {
			t.Errorf("%s became %s", s.told(), left(x).told())
		}
		is(t, "the fuse has one call left", x.Sync(), api.OK)
		is(t, "and no more", x.Sync(), api.ErrDown)
	}
}

// answers are what a long sequence of calls returns, with spare room at the arguments or without.
func answers(spare int) []string {
	r := rand.New(rand.NewSource(179))
	x := tape.New()
	j, _ := journal.Open(x)
	var all []string
	for range 300 {
		if r.Intn(10) == 0 {
			x.Fuse(r.Intn(6))
		}
		d := chosen(r)
		l := make([][]byte, 0, len(d.l)+spare)
		for _, s := range d.l {
			l = append(l, append(make([]byte, 0, len(s)+spare), s...))
		}
		var e api.Errno
		if d.renew {
			e = j.Renew(l)
		} else {
			e = j.Append(l[0])
		}
		all = append(all, e.Error(), strconv.Itoa(j.Size()), strconv.Itoa(j.Generation()))
		all = append(all, records(j)...)
		if e == api.ErrDown {
			x.Crash(r.Int())
			j, e = journal.Open(x)
			all = append(all, e.Error(), left(x).a, left(x).b)
		}
	}
	return all
}

// R5: the same calls answer the same each time, from whichever goroutine, and whatever room is spare.
func TestAgain(t *testing.T) {
	want := answers(0)
	var group sync.WaitGroup
	for i := range 8 {
		group.Go(func() {
			for range 3 {
				if !slices.Equal(answers(i*9), want) {
					t.Error("other answers")
				}
			}
		})
	}
	group.Wait()
}
