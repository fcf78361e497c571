package token_test

import (
	"bytes"
	"encoding/binary"
	"math"
	"slices"
	"strconv"
	"strings"
	"testing"

	"livery/api"
	"livery/token"
	"livery/wire"
)

// numberOf is the encoding of a number, in another way than that of wire; that of 0 for negative ones.
func numberOf(n int) []byte {
	if n < 0 {
		n = 0
	}
	digits := bytes.TrimLeft(binary.BigEndian.AppendUint64(nil, uint64(n)), "\x00")
	return append([]byte{byte(len(digits))}, digits...)
}

// textOf is the encoding of a string.
func textOf(s string) []byte {
	return append(numberOf(len(s)), s...)
}

// part is a part of an encoding: a number, with its bounds, or a string, with the greatest length.
type part struct {
	what        string
	text        bool
	least, most int
	data        []byte
}

// rolesParts are those of the number of roles, and of these.
func rolesParts(what string, l []api.Role) []part {
	list := []part{{what, false, 0, mostRole, numberOf(len(l))}}
	for i, r := range l {
		owner, _ := strconv.Atoi(strings.TrimPrefix(r.Owner, "d"))
		is := what + " " + strconv.Itoa(i)
		list = append(list, part{is + " Owner", false, 1, domains, numberOf(owner)}, part{is + " Name", true, 0, 8, textOf(r.Name)})
	}
	return list
}

// headParts are those of a token's head, whether it is valid or not.
func headParts(t api.Token) []part {
	list := []part{
		{"Domain", false, 1, domains, numberOf(t.Domain)}, {"Epoch", false, 1, epochs, numberOf(t.Epoch)},
		{"Number", false, 1, greatest, numberOf(t.Number)}, {"Who", true, 0, 8, textOf(t.Who)}}
	list = append(list, rolesParts("Roles", t.Roles)...)
	list = append(list, part{"Until", false, 0, greatest, numberOf(t.Until)}, part{"Support", false, 0, mostID, numberOf(len(t.Support))})
	for i, id := range t.Support {
		is := "ID " + strconv.Itoa(i)
		list = append(list, part{is + " Domain", false, 1, domains, numberOf(id.Domain)}, part{is + " Seq", false, 1, seqs, numberOf(id.Seq)})
	}
	return list
}

// caveatParts are those of a caveat.
func caveatParts(is string, c api.Caveat) []part {
	list := []part{{is + " Kind", false, 1, 3, numberOf(c.Kind)}}
	switch c.Kind {
	case 1:
		list = append(list, rolesParts(is+" Roles", c.Roles)...)
	case 2:
		list = append(list, part{is + " Until", false, 0, greatest, numberOf(c.Until)})
	case 3:
		list = append(list, part{is + " Aud", true, 0, 8, textOf(c.Aud)})
	}
	return list
}

// partsOf are those of a token.
func partsOf(t api.Token) []part {
	list := append(headParts(t), part{"Caveats", false, 0, mostCut, numberOf(len(t.Caveats))})
	for i, c := range t.Caveats {
		list = append(list, caveatParts("caveat "+strconv.Itoa(i), c)...)
	}
	return append(list, part{"Tag", true, 0, tagSize, textOf(string(t.Tag))})
}

// joined are the bytes of parts.
func joined(list []part) []byte {
	var all []byte
	for _, p := range list {
		all = append(all, p.data...)
	}
	return all
}

// headOf is the encoding of a token's head.
func headOf(t api.Token) []byte {
	return joined(headParts(t))
}

// caveatOf is the encoding of a caveat.
func caveatOf(c api.Caveat) []byte {
	return joined(caveatParts("", c))
}

// encodingOf is the encoding of a token.
func encodingOf(t api.Token) []byte {
	return joined(partsOf(t))
}

// start is where a part begins.
func start(l []part, i int) int {
	return len(joined(l[:i]))
}

// replaced are the bytes of parts, one of which has others.
func replaced(l []part, i int, data []byte) []byte {
	return slices.Concat(joined(l[:i]), data, joined(l[i+1:]))
}

// aTag has as many bytes as a tag.
const aTag = "0123456789abcdefghijklmnopqrstuv"

// cut is the chapter's token, with caveats and any tag.
func cut(l ...api.Caveat) api.Token {
	t := example()
	t.Caveats, t.Tag = l, []byte(aTag)
	return t
}

// P12.3: encodings byte by byte: the chapter's token, and its caveats of each kind.
func TestPutExamples(t *testing.T) {
	head := "\x01\x01\x01\x01\x01\x01\x01\x03ann\x01\x02\x01\x01\x01\x01a\x01\x01\x01\x01b\x01\x28"
	tag := "\x01\x20" + aTag
	long := api.Token{Domain: 16, Epoch: 1000, Number: 1 << 40, Who: "abcdefgh", Roles: []api.Role{roleOf(16, "r")}, Until: 0, Support: []api.ID{{Domain: 1, Seq: 2}, {Domain: 16, Seq: 4000}}, Tag: []byte(aTag)}
	for i, x := range []struct {
		token api.Token
		want  string
	}{
		{cut(), head + "\x00\x00" + tag},
		{cut(cutUntil(30)), head + "\x00\x01\x01\x01\x02\x01\x1e" + tag},
		{cut(cutRoles()), head + "\x00\x01\x01\x01\x01\x00" + tag},
		{cut(cutRoles(roleOf(1, "b"), roleOf(10, "c0"))), head + "\x00\x01\x01\x01\x01\x01\x02\x01\x01\x01\x01b\x01\x0a\x01\x02c0" + tag},
		{cut(cutFor("d2")), head + "\x00\x01\x01\x01\x03\x01\x02d2" + tag},
		{cut(cutFor("d2"), cutUntil(0), cutUntil(greatest)), head + "\x00\x01\x03\x01\x03\x01\x02d2\x01\x02\x00\x01\x02\x06\x01\x00\x00\x00\x00\x00" + tag},
		{long, "\x01\x10\x02\x03\xe8\x06\x01\x00\x00\x00\x00\x00\x01\x08abcdefgh\x01\x01\x01\x10\x01\x01r\x00\x01\x02\x01\x01\x01\x02\x01\x10\x02\x0f\xa0\x00" + tag},
	} {
		for _, ahead := range []string{"", "\x00", "some bytes that stand ahead"} {
			if got, e := token.Put([]byte(ahead), x.token); string(got) != ahead+x.want || e != api.OK {
				t.Errorf("%d: Put behind %q = %q, %v, want %q", i, ahead, got, e, x.want)
			}
		}
		c := wire.New([]byte(x.want))
		if got := token.Read(c); !same(got, x.token) || c.End() != api.OK {
			t.Errorf("%d: Read = %+v, %v", i, got, c.End())
		}
	}
}

// P12.3: Put of all sorts of valid tokens, behind bytes that stand ahead.
func TestPut(t *testing.T) {
	for i, x := range valid() {
		for _, ahead := range [][]byte{nil, {}, {0}, []byte("ahead"), make([]byte, i)} {
			if got, e := token.Put(ahead, x); !bytes.Equal(got, slices.Concat(ahead, encodingOf(x))) || e != api.OK {
				t.Fatalf("Put of %+v behind %d = %d, %v", x, ahead, got, e)
			}
		}
	}
	ahead := make([]byte, 1<<20)
	if got, e := token.Put(ahead, full()); !bytes.Equal(got, append(ahead, encodingOf(full())...)) || e != api.OK {
		t.Error(e)
	}
}

// P12.3: what is not valid is not put.
func TestPutWrong(t *testing.T) {
	for _, w := range wrongs() {
		for _, ahead := range []string{"", "ahead"} {
			if got, e := token.Put([]byte(ahead), w.token); got != nil || e != api.ErrToken {
				t.Errorf("%s: Put = %d, %v", w.name, got, e)
			}
		}
	}
}

// fails tells if Read of bytes doesn't leave that error and that place, also with bytes ahead, or if it returns something.
func fails(t *testing.T, what string, b []byte, want api.Errno, place int) {
	t.Helper()
	for _, ahead := range []int{0, 3} {
		c := wire.New(append(make([]byte, ahead), b...))
		for range ahead {
			c.Number(0, 0)
		}
		if got := token.Read(c); !zero(got) || c.Err() != want || c.Place() != ahead+place {
			t.Fatalf("%s: Read of %d = %+v, %v at %d; want %v at %d", what, b, got, c.Err(), c.Place()-ahead, want, place)
		}
		if got := token.Read(c); !zero(got) || c.Err() != want || c.Place() != ahead+place {
			t.Fatalf("%s: Read again = %+v, %v at %d", what, got, c.Err(), c.Place()-ahead)
		}
	}
}

// P12.3: every beginning of an encoding is short, and the place is ahead of the part that ends too soon.
func TestReadShort(t *testing.T) {
	for _, x := range append(bases(), cut(), cut(cutRoles())) {
		place := 0
		for _, p := range partsOf(x) {
			for n := range p.data {
				fails(t, p.what, encodingOf(x)[:place+n], api.ErrShort, place)
			}
			place += len(p.data)
		}
	}
}

// P12.3: each number of an encoding below its bounds, above them, in a longer form, or none: the error is that of Number, and the place ahead of it, whatever follows.
func TestReadNumbers(t *testing.T) {
	count := 0
	for _, x := range bases() {
		parts := partsOf(x)
		for i, p := range parts {
			if p.text {
				continue
			}
			count++
			bad := [][]byte{{1, 0}, {2, 0, 1}, {2, 0, 2}, {3, 0, 0, 1}, {6, 0, 1, 0, 0, 0, 0}, {8, 0, 0, 0, 0, 0, 0, 0, 1}, {9, 1, 1, 1, 1, 1, 1, 1, 1, 1}, {9, 0, 0, 0, 0, 0, 0, 0, 0, 1}, {255, 1}, {8, 127, 255, 255, 255, 255, 255, 255, 255}, {8, 128, 0, 0, 0, 0, 0, 0, 1}, {8, 255, 255, 255, 255, 255, 255, 255, 255}}
			for _, n := range []int{p.least - 1, p.most + 1, p.most + 2, p.most + 256, p.most + 1<<32, math.MaxInt} {
				if n >= 0 {
					bad = append(bad, numberOf(n))
				}
			}
			for _, data := range bad {
				fails(t, p.what, replaced(parts, i, data), api.ErrBytes, start(parts, i))
				fails(t, p.what+", where the bytes end", append(joined(parts[:i]), data...), api.ErrBytes, start(parts, i))
			}
			for _, data := range [][]byte{{}, {1}, {2, 1}, {2, 255}, {8, 255}, {8, 0, 0, 0, 0, 0, 0, 0}} {
				fails(t, p.what, append(joined(parts[:i]), data...), api.ErrShort, start(parts, i))
			}
		}
	}
	if count < 150 {
		t.Error(count)
	}
}

// P12.3: each string of an encoding whose length is none, or too great: the error is that of Text, and the place ahead of it.
func TestReadTexts(t *testing.T) {
	count := 0
	for _, x := range bases() {
		parts := partsOf(x)
		for i, p := range parts {
			if !p.text {
				continue
			}
			count++
			long := strings.Repeat("a", p.most+1)
			for _, data := range [][]byte{textOf(long), textOf(long + long), numberOf(p.most + 1), {1, 255}, {2, 1, 0}, {1, 0}, {2, 0, 1, 97}, {9, 1, 97}, {8, 127, 255, 255, 255, 255, 255, 255, 255}, {8, 128, 0, 0, 0, 0, 0, 0, 0}} {
				fails(t, p.what, replaced(parts, i, data), api.ErrBytes, start(parts, i))
				fails(t, p.what+", where the bytes end", append(joined(parts[:i]), data...), api.ErrBytes, start(parts, i))
			}
			for _, data := range [][]byte{{}, {1}, {1, 1}, {1, 8, 97}, textOf(long[1:])[:p.most+1], {2, 1}, {8, 128}} {
				fails(t, p.what, append(joined(parts[:i]), data...), api.ErrShort, start(parts, i))
			}
		}
	}
	if count < 20 {
		t.Error(count)
	}
}

// readable reports whether all parts of a token that may not be valid are read, as each number is within its bounds, and each string short enough.
func readable(x api.Token) bool {
	for _, p := range partsOf(x) {
		c := wire.New(p.data)
		if p.text {
			c.Text(p.most)
		} else {
			c.Number(p.least, p.most)
		}
		if c.End() != api.OK {
			return false
		}
	}
	return true
}

// decodedAs reports whether the encoding of a token says all that it has: no negative numbers, no owners that aren't a domain's names, and no other fields of a caveat.
func decodedAs(x api.Token) bool {
	roles := slices.Clone(x.Roles)
	for _, c := range x.Caveats {
		roles = append(roles, c.Roles...)
		other := api.Caveat{Kind: c.Kind}
		switch c.Kind {
		case 1:
			other.Roles = c.Roles
		case 2:
			other.Until = c.Until
		case 3:
			other.Aud = c.Aud
		}
		if !sameCaveat(c, other) || c.Until < 0 {
			return false
		}
	}
	for _, r := range roles {
		if !aDomain.MatchString(r.Owner) {
			return false
		}
	}
	return x.Until >= 0
}

// P12.3: tokens that are not valid: where each part is read, ErrBytes behind the last one; elsewhere the error is that of the first part that isn't.
func TestReadWrong(t *testing.T) {
	count := map[string]int{}
	for _, w := range wrongs() {
		if !decodedAs(w.token) {
			continue
		}
		b := encodingOf(w.token)
		if readable(w.token) {
			count[w.part]++
			fails(t, w.name, b, api.ErrBytes, len(b))
			fails(t, w.name+", with bytes behind", append(b, 9, 9), api.ErrBytes, len(b))
			continue
		}
		count["unreadable"]++
		c := wire.New(b)
		if got := token.Read(c); !zero(got) || c.Err() != api.ErrBytes || c.Place() >= len(b) {
			t.Fatalf("%s: Read = %+v, %v at %d", w.name, got, c.Err(), c.Place())
		}
	}
	if count["head"] < 100 || count["caveats"] < 100 || count["tag"] < 6 || count["unreadable"] < 100 {
		t.Error(count)
	}
}

// P12.3: what isn't valid is told only when everything was read: a later error of Number or Text comes first.
func TestReadFirstError(t *testing.T) {
	x := cut(cutFor("No"))
	x.Who, x.Roles, x.Support = "1", nil, []api.ID{{Domain: 2, Seq: 1}, {Domain: 1, Seq: 1}}
	parts := partsOf(x)
	fails(t, "all is read", joined(parts), api.ErrBytes, len(joined(parts)))
	for i := 4; i < len(parts); i++ { // behind Who, which is no name
		fails(t, parts[i].what, joined(parts[:i]), api.ErrShort, start(parts, i))
		fails(t, parts[i].what, append(joined(parts[:i]), 9), api.ErrBytes, start(parts, i))
	}
	for _, n := range []int{0, 1, 31} {
		short := full()
		short.Tag = short.Tag[:n]
		fails(t, "a short Tag", encodingOf(short), api.ErrBytes, len(encodingOf(short)))
	}
	long := full()
	long.Tag = append(long.Tag, 7)
	fails(t, "a long Tag", encodingOf(long), api.ErrBytes, len(encodingOf(long))-35)
	fails(t, "no bytes", nil, api.ErrShort, 0)
	fails(t, "the Domain 0, and nothing", []byte{0}, api.ErrBytes, 0)
}

// reference is what P12.3 says of Read, by Number and Text themselves: the token, the error and the place.
func reference(b []byte) (api.Token, api.Errno, int) {
	c := wire.New(b)
	var x api.Token
	roles := func() (l []api.Role) {
		n := c.Number(0, mostRole)
		for range n {
			owner := c.Number(1, domains)
			l = append(l, roleOf(owner, c.Text(8)))
		}
		return l
	}
	x.Domain, x.Epoch = c.Number(1, domains), 0
	x.Epoch = c.Number(1, epochs)
	x.Number = c.Number(1, greatest)
	x.Who = c.Text(8)
	x.Roles = roles()
	x.Until = c.Number(0, greatest)
	ids := c.Number(0, mostID)
	for range ids {
		domain := c.Number(1, domains)
		x.Support = append(x.Support, api.ID{Domain: domain, Seq: c.Number(1, seqs)})
	}
	caveats := c.Number(0, mostCut)
	for range caveats {
		switch kind := c.Number(1, 3); kind {
		case 1:
			x.Caveats = append(x.Caveats, cutRoles(roles()...))
		case 2:
			x.Caveats = append(x.Caveats, cutUntil(c.Number(0, greatest)))
		case 3:
			x.Caveats = append(x.Caveats, cutFor(c.Text(8)))
		}
	}
	x.Tag = []byte(c.Text(tagSize))
	if c.Err() != api.OK {
		return api.Token{}, c.Err(), c.Place()
	}
	if !isToken(x) {
		return api.Token{}, api.ErrBytes, c.Place()
	}
	return x, api.OK, c.Place()
}

// tryRead tells if Read isn't what the chapter says, or if what it reads is not put as the same bytes. It returns the error.
func tryRead(t *testing.T, b []byte) api.Errno {
	t.Helper()
	c := wire.New(b)
	got := token.Read(c)
	want, e, place := reference(b)
	if !same(got, want) || c.Err() != e || c.Place() != place {
		t.Fatalf("Read of %d = %+v, %v at %d; want %+v, %v at %d", b, got, c.Err(), c.Place(), want, e, place)
	}
	if again, f := token.Put(nil, got); e == api.OK && (f != api.OK || !bytes.Equal(again, b[:place])) {
		t.Fatalf("Read of %d = %+v, which is put as %d, %v", b, got, again, f)
	}
	return e
}

// P12.3: encodings with one byte changed, in every way for short ones.
func TestReadOneByteChanged(t *testing.T) {
	count := map[api.Errno]int{}
	for _, x := range append(bases(), cut(cutRoles(manyRoles(2)...), cutFor("d2"), cutUntil(300))) {
		b := encodingOf(x)
		for i := range b {
			for n := range 256 {
				if len(b) > 150 && n > 20 && n < 250 && n%7 > 0 {
					continue
				}
				changed := bytes.Clone(b)
				changed[i] = byte(n)
				count[tryRead(t, changed)]++
			}
		}
	}
	if count[api.OK] < 1000 || count[api.ErrBytes] < 1000 {
		t.Error(count)
	}
}

// P12.3, R1: encodings with bytes changed, left out or added, and bytes that encode nothing.
func TestReadAnyBytes(t *testing.T) {
	m := newMixer(3)
	count := map[api.Errno]int{}
	for range 60000 {
		b := encodingOf(m.mixture(20))
		for range m.Intn(4) {
			i := m.Intn(len(b))
			switch m.Intn(4) {
			case 0:
				b = slices.Insert(b, i, byte(m.Intn(20)))
			case 1:
				b = slices.Delete(b, i, i+1)
			case 2:
				b[i] = byte(m.Intn(20))
			case 3:
				b[i] = byte(m.Intn(256))
			}
		}
		count[tryRead(t, b)]++
	}
	for range 20000 {
		b := make([]byte, m.Intn(40))
		for i := range b {
			b[i] = byte(m.Intn(4))
		}
		tryRead(t, b)
	}
	if count[api.OK] < 1000 || count[api.ErrBytes] < 1000 || count[api.ErrShort] < 300 || len(count) != 3 {
		t.Error(count)
	}
}

// P12.3: Read of no cursor, and of one that has an error already, which stays, as does its place.
func TestReadOfCursorWithError(t *testing.T) {
	if got := token.Read(nil); !zero(got) {
		t.Error(got)
	}
	good := encodingOf(full())
	for _, e := range []api.Errno{api.ErrArg, api.ErrBytes, api.ErrShort, api.ErrToken, api.ErrScript, 1000, -1, math.MinInt} {
		for _, b := range [][]byte{nil, {0}, {9}, good, good[:20], encodingOf(api.Token{})} {
			for _, ahead := range []int{0, 2} {
				c := wire.New(append(make([]byte, ahead), b...))
				for range ahead {
					c.Number(0, 0)
				}
				c.Fail(e)
				for range 2 {
					if got := token.Read(c); !zero(got) || c.Err() != e || c.Place() != ahead {
						t.Fatalf("Read with the error %d = %+v, %d at %d", e, got, c.Err(), c.Place())
					}
				}
			}
		}
	}
}

// P12.6: what was put is read, whatever stands ahead of it or follows it.
func TestPutAndRead(t *testing.T) {
	m := newMixer(6)
	list := valid()
	for range 3000 {
		list = append(list, m.mixture(0))
	}
	for i, x := range list {
		ahead := i % 4
		b, e := token.Put(make([]byte, ahead), x)
		for _, more := range []string{"", "\x00", "\x01", "\x09", "\x01\x01\x01\x01", "more bytes"} {
			c := wire.New(slices.Concat(b, []byte(more)))
			for range ahead {
				c.Number(0, 0)
			}
			if got := token.Read(c); e != api.OK || !same(got, x) || c.Err() != api.OK || c.Place() != len(b) || (c.End() == api.OK) != (more == "") {
				t.Fatalf("%+v is read as %+v, %v at %d", x, got, c.Err(), c.Place())
			}
		}
	}
}

// P12.6: several tokens, one behind the other, are read in their order; what was read is verified as what was put.
func TestPutAndReadSeveral(t *testing.T) {
	m := newMixer(7)
	for range 300 {
		key := pick(m, keys())
		var all []api.Token
		var b []byte
		for range m.Intn(5) {
			x, _ := token.Mint(key, m.mixture(0))
			for range m.Intn(mostCut + 1) {
				x, _ = token.Narrow(x, m.caveat())
			}
			all = append(all, x)
			b, _ = token.Put(b, x)
		}
		c := wire.New(b)
		for _, x := range all {
			if got := token.Read(c); !same(got, x) || token.Verify(key, got) != api.OK {
				t.Fatalf("%+v is read as %+v", x, got)
			}
		}
		if c.End() != api.OK {
			t.Fatal(c.End())
		}
	}
}

// P12.6: different valid tokens have different encodings, none of which begins another one.
func TestEncodingsDiffer(t *testing.T) {
	var all []api.Token
	for _, x := range bases() {
		all = append(all, x)
		for _, y := range headsLike(x) {
			all = append(all, y)
		}
	}
	for _, c := range someCaveats() {
		all = append(all, cut(c))
	}
	bytesOf := map[string]api.Token{}
	var texts []string
	for _, x := range all {
		b, _ := token.Put(nil, x)
		if other, ok := bytesOf[string(b)]; ok && !same(other, x) {
			t.Fatalf("%+v and %+v are both put as %d", x, other, b)
		}
		bytesOf[string(b)] = x
		texts = append(texts, string(b))
	}
	slices.Sort(texts)
	texts = slices.Compact(texts)
	for i := 1; i < len(texts); i++ {
		if strings.HasPrefix(texts[i], texts[i-1]) {
			t.Errorf("%d begins with %d", []byte(texts[i]), []byte(texts[i-1]))
		}
	}
}
