package names_test

import (
	"math"
	"regexp"
	"sort"
	"strconv"
	"strings"
	"sync"
	"testing"

	"livery/api"
	"livery/names"
)

var (
	aName   = regexp.MustCompile(`\A[a-z][a-z0-9]{0,7}\z`)
	aDomain = regexp.MustCompile(`\Ad([1-9]|1[0-6])\z`)
	aRole   = regexp.MustCompile(`\Ad([1-9]|1[0-6])\.[a-z][a-z0-9]{0,7}\z`)
)

// odd are texts that are no names, or only just are, and are taken alone, as owners, as names and as whole texts.
func odd() []string {
	list := []string{
		"", "a", "z", "m", "a1", "a0", "a9", "z0z9", "abcdefgh", "a2345678", "abcdefghi", "a23456789", strings.Repeat("a", 1000),
		"1a", "0", "9", "1", "12345678", "0a", "9z",
		"A", "Z", "aB", "Ab", "abcdefgH", "-", "-a", "a-", "a-b", ".", ".a", "a.", "a.b", "..", "a_b", "a b", " a", "a ", "a\n", "\na",
		"\x00", "\x00a", "a\x00", "a\x00b", "\xff", "\xffa", "a\xff", "a\xffb", "\xc3", "a\xc3", "\xc3a", "\xe2\x82", "\xed\xa0\x80",
		"é", "éa", "aé", "aéb", "ß", "ａ", "aａ", "а", "aа", "١", "a١", "a１", "\U0001F600", "a\U0001F600", "abcdéf", "abcdefé", "�", "a�",
		"`", "{", "/", ":", "a`", "a{", "a/", "a:", "`a", "{a", "/a", ":a", "@", "[", "a@", "a[",
		"d", "D1", "d0", "d00", "d01", "d001", "d010", "d016", "d0016", "d10 ", "d 1", " d1", "d1 ", "d-1", "d+1", "+d1", "-d1", "d1.0", "d1a", "dd1", "d1d", "e1", "c1", "1d", "1", "16",
		"d17", "d18", "d19", "d20", "d21", "d26", "d61", "d99", "d100", "d101", "d116", "d160", "d161", "d256", "d257", "d1000", "d65537",
		"d4294967297", "d4294967312", "d9223372036854775807", "d9223372036854775808", "d18446744073709551616", "d18446744073709551617", "d18446744073709551632", "d36893488147419103233", "d340282366920938463463374607431768211457",
		"d" + strings.Repeat("1", 1000), "d" + strings.Repeat("0", 1000) + "1", "d1" + strings.Repeat("0", 64), "d\x001", "d1\x00", "d1\xff", "d\xff1", "dé1", "d1é", "d１", "d١", "ｄ1", "d1\n", "d0x1", "d1e0", "d1_0", "d/", "d:", "d1/", "d1:",
	}
	for n := range 19 {
		list = append(list, "d"+strconv.Itoa(n))
	}
	return list
}

// P4.1: the chapter's examples of names.
func TestMayExamples(t *testing.T) {
	if !names.May("a1") || names.May("1a") || names.May("abcdefghi") {
		t.Error(names.May("a1"), names.May("1a"), names.May("abcdefghi"))
	}
}

// P4.1: names of each length, made of letters, of digits behind a letter, and of digits alone.
func TestMayLengths(t *testing.T) {
	for n := range 40 {
		want := 1 <= n && n <= 8
		if s := strings.Repeat("q", n); names.May(s) != want {
			t.Errorf("May of %d letters = %v", n, !want)
		}
		if s := "q" + strings.Repeat("7", n); names.May(s) != (n <= 7) {
			t.Errorf("May of a letter and %d digits = %v", n, names.May(s))
		}
		if names.May(strings.Repeat("7", n)) {
			t.Errorf("May of %d digits", n)
		}
	}
}

// P4.1: each byte at each place of names of 1, of 3 and of 8 bytes.
func TestMayBytes(t *testing.T) {
	for _, whole := range []string{"a", "a1b", "abcdefgh"} {
		for place := range len(whole) {
			for c := range 256 {
				b := []byte(whole)
				b[place] = byte(c)
				want := 'a' <= c && c <= 'z' || place > 0 && '0' <= c && c <= '9'
				if names.May(string(b)) != want {
					t.Errorf("May of %q = %v", b, !want)
				}
			}
		}
	}
}

// P4.1: letters beyond ASCII, ahead, within and at the end, also those whose low byte is that of a letter or a digit.
func TestMayRunes(t *testing.T) {
	for c := rune(128); c <= 0x10ffff; c++ {
		if c > 0x3000 && c&0xff != 'a' && c&0xff != '1' {
			continue
		}
		s := string(c)
		for _, s := range []string{s, s + "a", "a" + s, "a" + s + "a"} {
			if names.May(s) {
				t.Fatalf("May of %q", s)
			}
		}
	}
}

// P4.1: every odd text, against a regular expression.
func TestMayOdd(t *testing.T) {
	for _, s := range odd() {
		if want := aName.MatchString(s); names.May(s) != want {
			t.Errorf("May of %q = %v", s, !want)
		}
	}
}

// P4.1: the names of domains, and that there are no others.
func TestDomain(t *testing.T) {
	list := []string{"d1", "d2", "d3", "d4", "d5", "d6", "d7", "d8", "d9", "d10", "d11", "d12", "d13", "d14", "d15", "d16"}
	for i, want := range list {
		if got := names.Domain(i + 1); got != want {
			t.Errorf("Domain of %d = %q", i+1, got)
		}
	}
	none := []int{-1, 0, 17, 18, 19, 26, 100, 161, 256, 257, 65537, 1<<32 + 1, 1<<32 - 1, -2, -16, -17, -256, -1 << 32, math.MaxInt, math.MaxInt - 1, math.MinInt, math.MinInt + 1, math.MinInt + 16}
	for _, n := range none {
		if got := names.Domain(n); got != "" {
			t.Errorf("Domain of %d = %q", n, got)
		}
	}
}

// P4.1: the chapter's examples of numbers; the number of each odd text.
func TestNumber(t *testing.T) {
	if names.Number("d16") != 16 || names.Number("d17") != 0 || names.Number("d01") != 0 || names.Number("d03") != 0 {
		t.Error(names.Number("d16"), names.Number("d17"), names.Number("d01"), names.Number("d03"))
	}
	for _, s := range odd() {
		want := 0
		if aDomain.MatchString(s) {
			want, _ = strconv.Atoi(s[1:])
		}
		if got := names.Number(s); got != want {
			t.Errorf("Number of %q = %d, want %d", s, got, want)
		}
	}
}

// P4.1: a domain's name with a byte more, behind, ahead or within, or with another byte, is at most that of another domain.
func TestNumberBesideDomains(t *testing.T) {
	check := func(s string) {
		want := 0
		if aDomain.MatchString(s) {
			want, _ = strconv.Atoi(s[1:])
		}
		if got := names.Number(s); got != want {
			t.Errorf("Number of %q = %d, want %d", s, got, want)
		}
	}
	for n := 1; n <= 18; n++ {
		s := "d" + strconv.Itoa(n)
		for c := range 256 {
			x := string([]byte{byte(c)})
			for i := range len(s) + 1 {
				check(s[:i] + x + s[i:])
				if i < len(s) {
					check(s[:i] + x + s[i+1:])
				}
			}
		}
		check(s[1:])
		check(s[:len(s)-1])
	}
}

// P4.1: a role has the name of a domain and a name; every pair of odd texts.
func TestRole(t *testing.T) {
	for _, owner := range odd() {
		for _, name := range odd() {
			r := api.Role{Owner: owner, Name: name}
			if want := aDomain.MatchString(owner) && aName.MatchString(name); names.Role(r) != want {
				t.Errorf("Role of %q = %v", r, !want)
			}
		}
	}
	if names.Role(api.Role{}) || names.Role(api.Role{Owner: "d1"}) || names.Role(api.Role{Name: "a"}) {
		t.Error("half a role is one")
	}
}

// P4.2: the text of any role, also of one that is none.
func TestText(t *testing.T) {
	for _, owner := range odd() {
		for _, name := range odd() {
			if got := names.Text(api.Role{Owner: owner, Name: name}); got != strings.Join([]string{owner, name}, ".") {
				t.Errorf("Text of %q and %q = %q", owner, name, got)
			}
		}
	}
	if got := names.Text(api.Role{}); got != "." {
		t.Errorf("Text of no role = %q", got)
	}
}

// P4.2: the chapter's examples of reading.
func TestReadExamples(t *testing.T) {
	if r, e := names.Read("d1.a"); r != (api.Role{Owner: "d1", Name: "a"}) || e != api.OK {
		t.Error(r, e)
	}
	for _, s := range []string{"d1", "d1.", "d1.a.b", "x.a"} {
		if r, e := names.Read(s); r != (api.Role{}) || e != api.ErrName {
			t.Error(s, r, e)
		}
	}
}

// P4.2: texts without a point, with one ahead or at the end, with two, and with an Owner or a Name that is none.
func TestReadWrong(t *testing.T) {
	for _, s := range []string{
		"", ".", "..", "...", "a", "d1", "d1a", ".a", ".d1.a", "d1.", "d1..", "d1..a", "d1.a.", "d1.a.b", "d1.d2.a", "d1.a.b.c",
		"d0.a", "d17.a", "d01.a", "d.a", "x.a", "a.a", "D1.a", " d1.a", "d1 .a", "d1. a", "d1.a ", "d1.a\n", "d1\x00.a", "d1.a\x00",
		"d1.1", "d1.1a", "d1.A", "d1.-", "d1.a-b", "d1.abcdefghi", "d1.é", "d1.aé", "d1.a\xff", "é.a", "\xff.a", "d1\xff.a", "d1é.a", "d1،a", "d1。a", "d1．a",
		"d1,a", "d1:a", "d1/a", "d1-a", "d1\xc0\xaea", strings.Repeat("d1.a", 500), "d1." + strings.Repeat("a", 5000), "d" + strings.Repeat("1", 5000) + ".a",
	} {
		if r, e := names.Read(s); r != (api.Role{}) || e != api.ErrName {
			t.Errorf("Read of %q = %q, %v", s, r, e)
		}
	}
	for _, s := range odd() {
		for _, s := range []string{s, s + ".a", "d1." + s, s + ".", "." + s, s + s, "d1.a" + s} {
			r, e := names.Read(s)
			if aRole.MatchString(s) {
				if e != api.OK || names.Text(r) != s || !names.Role(r) {
					t.Errorf("Read of %q = %q, %v", s, r, e)
				}
			} else if e != api.ErrName || r != (api.Role{}) {
				t.Errorf("Read of %q = %q, %v", s, r, e)
			}
		}
	}
}

// P4.3: each domain has one name, and no other name is that of a domain: all names of at most three bytes, and the ones that begin like those of domains.
func TestOneNameEach(t *testing.T) {
	of := map[int][]string{}
	for _, s := range allTexts("abcdez0123456789", 4) {
		if n := names.Number(s); n != 0 {
			of[n] = append(of[n], s)
		}
	}
	for n := 1; n <= api.MaxDomains; n++ {
		if len(of[n]) != 1 || of[n][0] != names.Domain(n) || !names.May(names.Domain(n)) || names.Number(names.Domain(n)) != n {
			t.Errorf("domain %d has the names %q", n, of[n])
		}
	}
	if len(of) != api.MaxDomains {
		t.Errorf("%d domains", len(of))
	}
}

// allTexts returns all texts of at most so many bytes of an alphabet.
func allTexts(alphabet string, most int) []string {
	all, last := []string{""}, []string{""}
	for range most {
		var next []string
		for _, s := range last {
			for _, c := range alphabet {
				next = append(next, s+string(c))
			}
		}
		all, last = append(all, next...), next
	}
	return all
}

// P4.3: a role is read from its text, for each domain; no other role has this text.
func TestReadOfText(t *testing.T) {
	seen := map[string]api.Role{}
	for n := 1; n <= api.MaxDomains; n++ {
		for _, name := range []string{"a", "z", "d1", "d16", "a0", "z9", "abcdefgh", "a1234567", "d", "dd"} {
			r := api.Role{Owner: names.Domain(n), Name: name}
			s := names.Text(r)
			if got, e := names.Read(s); got != r || e != api.OK {
				t.Errorf("Read of %q = %q, %v", s, got, e)
			}
			if other, ok := seen[s]; ok {
				t.Errorf("%q and %q have the text %q", r, other, s)
			}
			seen[s] = r
		}
	}
}

// some are roles, and others that are none, in the order of roles.
func some() []api.Role {
	return []api.Role{
		{Owner: "", Name: ""}, {Owner: "", Name: "a"}, {Owner: "", Name: "\xff"},
		{Owner: "\x00", Name: ""}, {Owner: ".", Name: "."}, {Owner: "D1", Name: "a"}, {Owner: "d", Name: "16.a"},
		{Owner: "d1", Name: ""}, {Owner: "d1", Name: "0"}, {Owner: "d1", Name: "A"}, {Owner: "d1", Name: "a"}, {Owner: "d1", Name: "a\x00"}, {Owner: "d1", Name: "a0"},
		{Owner: "d1", Name: "a9"}, {Owner: "d1", Name: "aa"}, {Owner: "d1", Name: "aaa"}, {Owner: "d1", Name: "ab"}, {Owner: "d1", Name: "abcdefgh"}, {Owner: "d1", Name: "b"},
		{Owner: "d1", Name: "z"}, {Owner: "d1", Name: "é"}, {Owner: "d1", Name: "\xff"},
		{Owner: "d1\x00", Name: "a"}, {Owner: "d1.a", Name: "a"},
		{Owner: "d10", Name: ""}, {Owner: "d10", Name: "a"}, {Owner: "d10", Name: "b"}, {Owner: "d11", Name: "a"}, {Owner: "d16", Name: "a"}, {Owner: "d16", Name: "z"},
		{Owner: "d2", Name: "a"}, {Owner: "d2", Name: "z"}, {Owner: "d9", Name: "a"}, {Owner: "d9", Name: "b"}, {Owner: "e", Name: ""}, {Owner: "é", Name: "a"}, {Owner: "\xff", Name: "a"},
	}
}

// P4.2, P4.3: the order of roles is strict: never both ways, and one of the two where they differ.
func TestLess(t *testing.T) {
	list := some()
	for i, a := range list {
		for k, b := range list {
			if got := names.Less(a, b); got != (i < k) {
				t.Errorf("Less of %q and %q = %v", a, b, got)
			}
		}
	}
	if !names.Less(api.Role{Owner: "d16", Name: "a"}, api.Role{Owner: "d2", Name: "a"}) {
		t.Error("d16.a does not precede d2.a")
	}
}

// P4.3: sorting by Less gives one order, whatever the order before.
func TestLessSorts(t *testing.T) {
	want := some()
	for turn := range len(want) {
		list := append(append([]api.Role{}, want[turn:]...), want[:turn]...)
		for i := 0; i+turn+1 < len(list); i += 2 {
			list[i], list[i+turn+1] = list[i+turn+1], list[i]
		}
		sort.Slice(list, func(i, k int) bool { return names.Less(list[i], list[k]) })
		for i := range list {
			if list[i] != want[i] {
				t.Fatalf("turn %d, place %d: %q, want %q", turn, i, list[i], want[i])
			}
		}
	}
}

// R1: long texts end soon, and nothing panics.
func TestLongTexts(t *testing.T) {
	long := strings.Repeat("d", 1<<22)
	if names.May(long) || names.Number(long) != 0 || names.Number("d"+strings.Repeat("9", 1<<22)) != 0 || names.Role(api.Role{Owner: long, Name: long}) {
		t.Error("a long text is a name")
	}
	if r, e := names.Read(long + "." + long); r != (api.Role{}) || e != api.ErrName {
		t.Error(len(r.Owner), e)
	}
	if s := names.Text(api.Role{Owner: long, Name: long}); s != long+"."+long || names.Less(api.Role{Owner: long}, api.Role{Owner: long}) {
		t.Error(len(s))
	}
}

// R5: the same calls at one time, and again, have the same results.
func TestTogether(t *testing.T) {
	var all sync.WaitGroup
	for range 8 {
		all.Go(func() {
			for n := -1; n <= 18; n++ {
				s := names.Domain(n)
				if (n >= 1 && n <= 16) != (names.Number(s) == n && s != "") {
					t.Error(n, s)
				}
				if r, e := names.Read(s + ".a"); (e == api.OK) != (s != "") || names.Role(r) != (e == api.OK) {
					t.Error(s, r, e)
				}
			}
		})
	}
	all.Wait()
}

// R6: the numbers in the names of domains are printed in decimal without leading zeros.
func TestDecimal(t *testing.T) {
	for n := 1; n <= 16; n++ {
		if got := names.Domain(n); got != "d"+strconv.FormatInt(int64(n), 10) {
			t.Error(n, got)
		}
	}
}
