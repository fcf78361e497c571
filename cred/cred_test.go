package cred_test

import (
	"bytes"
	"math"
	"regexp"
	"slices"
	"strconv"
	"strings"
	"sync"
	"testing"

	"livery/api"
	"livery/cred"
	"livery/names"
	"livery/wire"
)

// The chapter's bounds, written out.
const (
	mostDomain = 16
	mostSeq    = 4000
	mostName   = 8
)

var (
	aName   = regexp.MustCompile(`\A[a-z][a-z0-9]{0,7}\z`)
	aDomain = regexp.MustCompile(`\Ad([1-9]|1[0-6])\z`)
)

// noNames are strings that are no names, and short enough for one but for the empty one and the long ones.
var noNames = []string{"", "A", "1", "1a", "aB", "a.b", "a ", " a", "a-b", "\x00", "a\x00", "\xff", "a\xff", "é", "aé", "d1.a", "abcdefgH", "&", "abcdefghi", "a23456789", strings.Repeat("a", 300)}

// roleOf is a role of a domain.
func roleOf(n int, name string) api.Role {
	return api.Role{Owner: "d" + strconv.Itoa(n), Name: name}
}

// alone is a name alone, as a Link has it.
func alone(name string) api.Role {
	return api.Role{Name: name}
}

// kinds is a valid credential of each kind, with an ID.
func kinds(domain, seq int) []api.Cred {
	id := api.ID{Domain: domain, Seq: seq}
	return []api.Cred{
		{ID: id, Name: "a", Kind: 1, Who: "ann"},
		{ID: id, Name: "b", Kind: 2, A: roleOf(2, "bc")},
		{ID: id, Name: "abcdefgh", Kind: 3, A: alone("d7"), B: alone("x1234567")},
		{ID: id, Name: "r9", Kind: 4, A: roleOf(9, "g"), B: roleOf(16, "h0123456")},
	}
}

// someIDs are IDs with the least and the greatest numbers, and with others.
func someIDs() []api.ID {
	var list []api.ID
	for _, domain := range []int{1, 2, 9, 10, 15, 16} {
		for _, seq := range []int{1, 2, 3, 255, 256, 3999, 4000} {
			list = append(list, api.ID{Domain: domain, Seq: seq})
		}
	}
	return list
}

// valid are many valid credentials, of all kinds.
func valid() []api.Cred {
	var list []api.Cred
	for _, id := range someIDs() {
		list = append(list, kinds(id.Domain, id.Seq)...)
	}
	for _, n := range []string{"a", "z", "a0", "z9", "abcdefgh", "a1234567", "d1", "d16", "d"} {
		list = append(list,
			api.Cred{ID: api.ID{Domain: 3, Seq: 7}, Name: n, Kind: 1, Who: n},
			api.Cred{ID: api.ID{Domain: 3, Seq: 7}, Name: n, Kind: 2, A: roleOf(3, n)},
			api.Cred{ID: api.ID{Domain: 3, Seq: 7}, Name: n, Kind: 3, A: alone(n), B: alone(n)},
			api.Cred{ID: api.ID{Domain: 3, Seq: 7}, Name: n, Kind: 4, A: roleOf(3, n), B: roleOf(3, n)},
		)
	}
	return list
}

// change is one way in which a valid credential becomes one that is not.
type change struct {
	name string
	make func(c *api.Cred)
}

// changesOfAny are those that spoil a credential of any kind.
func changesOfAny() []change {
	var list []change
	for _, n := range []int{0, -1, 17, 18, 256, 257, 1<<32 + 1, -16, math.MaxInt, math.MinInt} {
		list = append(list, change{"Domain " + strconv.Itoa(n), func(c *api.Cred) { c.ID.Domain = n }})
	}
	for _, n := range []int{0, -1, 4001, 4002, 1<<16 + 1, 1<<32 + 1, -4000, math.MaxInt, math.MinInt} {
		list = append(list, change{"Seq " + strconv.Itoa(n), func(c *api.Cred) { c.ID.Seq = n }})
	}
	for _, n := range []int{0, 5, 6, -1, -4, 257, 1<<32 + 1, math.MaxInt, math.MinInt} {
		list = append(list, change{"Kind " + strconv.Itoa(n), func(c *api.Cred) { c.Kind = n }})
	}
	for _, s := range noNames {
		list = append(list, change{"Name " + strconv.Quote(s), func(c *api.Cred) { c.Name = s }})
	}
	return list
}

// changesOf are those that spoil a credential of one kind.
func changesOf(kind int) []change {
	list := changesOfAny()
	who := func(values ...string) {
		for _, s := range values {
			list = append(list, change{"Who " + strconv.Quote(s), func(c *api.Cred) { c.Who = s }})
		}
	}
	a := func(values ...api.Role) {
		for _, r := range values {
			list = append(list, change{"A " + strconv.Quote(names.Text(r)), func(c *api.Cred) { c.A = r }})
		}
	}
	b := func(values ...api.Role) {
		for _, r := range values {
			list = append(list, change{"B " + strconv.Quote(names.Text(r)), func(c *api.Cred) { c.B = r }})
		}
	}
	some := []api.Role{{Owner: "d1", Name: "a"}, {Owner: "d1"}, {Name: "a"}, {Owner: "x"}, {Name: "A"}, {Owner: " "}, {Name: " "}}
	switch kind {
	case 1:
		who(noNames...)
		a(some...)
		b(some...)
	case 2:
		who("a", "ann", "A", " ")
		a(noRoles()...)
		b(some...)
	case 3:
		who("a", "ann", "A", " ")
		a(noAlones()...)
		b(noAlones()...)
	case 4:
		who("a", "ann", "A", " ")
		a(noRoles()...)
		b(noRoles()...)
	}
	return list
}

// noRoles are values that are no roles.
func noRoles() []api.Role {
	list := []api.Role{{}, {Owner: "d1"}, {Name: "a"}}
	for _, s := range []string{"", "d", "d0", "d17", "d01", "D1", "x", "a", "1", "d1 ", "d1.a"} {
		list = append(list, api.Role{Owner: s, Name: "a"})
	}
	for _, s := range noNames {
		list = append(list, api.Role{Owner: "d1", Name: s})
	}
	return list
}

// noAlones are values that are no names alone.
func noAlones() []api.Role {
	list := []api.Role{{}, {Owner: "d1", Name: "a"}, {Owner: "x", Name: "a"}, {Owner: "a", Name: "a"}, {Owner: " ", Name: "a"}, {Owner: "d1"}}
	for _, s := range noNames {
		list = append(list, api.Role{Name: s})
	}
	return list
}

// wrong are many credentials that are not valid, each with one fault.
func wrong() map[string]api.Cred {
	list := map[string]api.Cred{"zero": {}}
	for _, c := range slices.Concat(kinds(1, 3), kinds(16, 4000)) {
		for _, x := range changesOf(c.Kind) {
			d := c
			x.make(&d)
			list["Domain "+strconv.Itoa(c.ID.Domain)+", kind "+strconv.Itoa(c.Kind)+": "+x.name] = d
		}
	}
	return list
}

// P5.1: the chapter's examples of what is not valid.
func TestMayExamples(t *testing.T) {
	for _, c := range kinds(1, 3) {
		seq, domain, kind := c, c, c
		seq.ID.Seq, domain.ID.Domain, kind.Kind = 0, 17, 5
		if !cred.May(c) || cred.May(seq) || cred.May(domain) || cred.May(kind) {
			t.Errorf("kind %d: %v, and %v, %v, %v", c.Kind, cred.May(c), cred.May(seq), cred.May(domain), cred.May(kind))
		}
	}
	if cred.May(api.Cred{}) {
		t.Error("the zero credential is valid")
	}
}

// P5.1: valid credentials of each kind, with the least and the greatest numbers.
func TestMayValid(t *testing.T) {
	for _, c := range valid() {
		if !cred.May(c) {
			t.Errorf("%+v is not valid", c)
		}
	}
	for domain := 1; domain <= mostDomain; domain++ {
		for seq := 1; seq <= mostSeq; seq++ {
			if c := (api.Cred{ID: api.ID{Domain: domain, Seq: seq}, Name: "a", Kind: 1, Who: "b"}); !cred.May(c) {
				t.Fatalf("%+v is not valid", c)
			}
		}
	}
}

// P5.1: each way in which a credential is not valid.
func TestMayWrong(t *testing.T) {
	for what, c := range wrong() {
		if cred.May(c) {
			t.Errorf("%s: %+v is valid", what, c)
		}
	}
}

// mayBe is what the chapter says of a valid credential, said in another way.
func mayBe(c api.Cred) bool {
	isRole := func(r api.Role) bool { return aDomain.MatchString(r.Owner) && aName.MatchString(r.Name) }
	isAlone := func(r api.Role) bool { return len(r.Owner) == 0 && aName.MatchString(r.Name) }
	none := func(r api.Role) bool { return len(r.Owner)+len(r.Name) == 0 }
	ok := map[int]bool{
		1: aName.MatchString(c.Who) && none(c.A) && none(c.B),
		2: len(c.Who) == 0 && isRole(c.A) && none(c.B),
		3: len(c.Who) == 0 && isAlone(c.A) && isAlone(c.B),
		4: len(c.Who) == 0 && isRole(c.A) && isRole(c.B),
	}[c.Kind]
	id := c.ID.Domain >= 1 && c.ID.Domain <= mostDomain && c.ID.Seq >= 1 && c.ID.Seq <= mostSeq
	return ok && id && aName.MatchString(c.Name)
}

// mixtures are credentials of each kind, and of none, with all mixtures of fields that are filled, not filled, or filled wrongly.
func mixtures() []api.Cred {
	var roles []api.Role
	for _, owner := range []string{"", "d1", "d16", "d17", "x"} {
		for _, name := range []string{"", "a", "b2", "2b"} {
			roles = append(roles, api.Role{Owner: owner, Name: name})
		}
	}
	var list []api.Cred
	for kind := -1; kind <= 6; kind++ {
		for _, who := range []string{"", "ann", "Ann"} {
			for _, a := range roles {
				for _, b := range roles {
					list = append(list, api.Cred{ID: api.ID{Domain: 1, Seq: 3}, Name: "r", Kind: kind, Who: who, A: a, B: b})
				}
			}
		}
	}
	return list
}

// P5.1, P5.2: every mixture of fields is valid or not as the chapter says; one that is not has no text and no encoding, one that is is read again.
func TestMixtures(t *testing.T) {
	count := 0
	for _, c := range mixtures() {
		want := mayBe(c)
		if cred.May(c) != want {
			t.Errorf("May of %+v = %v", c, !want)
		}
		s, e := cred.Text(c)
		b, f := cred.Put([]byte{1}, c)
		if want {
			count++
			if s != textOf(c) || e != api.OK || f != api.OK || !bytes.Equal(b, append([]byte{1}, encodingOf(c)...)) {
				t.Errorf("%+v: %q, %v, %v, %v", c, s, e, b, f)
			}
		} else if s != "" || e != api.ErrCred || len(b) != 0 || f != api.ErrCred {
			t.Errorf("%+v: %q, %v, %v, %v", c, s, e, b, f)
		}
	}
	if count != 1+4+4+16 {
		t.Errorf("%d are valid", count)
	}
}

// P5.1: the role of valid credentials, and of any others.
func TestRole(t *testing.T) {
	for _, c := range valid() {
		if got := cred.Role(c); got != roleOf(c.ID.Domain, c.Name) {
			t.Errorf("Role of %+v = %+v", c, got)
		}
	}
	for what, c := range wrong() {
		want := api.Role{Name: c.Name}
		if c.ID.Domain >= 1 && c.ID.Domain <= mostDomain {
			want.Owner = "d" + strconv.Itoa(c.ID.Domain)
		}
		if got := cred.Role(c); got != want {
			t.Errorf("%s: Role = %+v, want %+v", what, got, want)
		}
	}
	if got := cred.Role(api.Cred{}); got != (api.Role{}) {
		t.Errorf("Role of the zero credential = %+v", got)
	}
	if got := cred.Role(api.Cred{ID: api.ID{Domain: 5}, Name: "No Name"}); got != (api.Role{Owner: "d5", Name: "No Name"}) {
		t.Errorf("Role of a credential without a Seq = %+v", got)
	}
}

// examples are the chapter's credentials and their texts.
func examples() map[string]api.Cred {
	id := api.ID{Domain: 1, Seq: 3}
	return map[string]api.Cred{
		"d1.a <- ann":          {ID: id, Name: "a", Kind: api.Member, Who: "ann"},
		"d1.r <- d1.a.b":       {ID: id, Name: "r", Kind: api.Link, A: alone("a"), B: alone("b")},
		"d1.a <- d2.b":         {ID: id, Name: "a", Kind: api.Include, A: roleOf(2, "b")},
		"d1.a <- d2.b & d16.c": {ID: id, Name: "a", Kind: api.Both, A: roleOf(2, "b"), B: roleOf(16, "c")},
	}
}

// P5.1: the chapter's examples of texts.
func TestTextExamples(t *testing.T) {
	for want, c := range examples() {
		if got, e := cred.Text(c); got != want || e != api.OK {
			t.Errorf("Text of %+v = %q, %v", c, got, e)
		}
	}
}

// textOf is the text of a valid credential, put together in another way.
func textOf(c api.Cred) string {
	own := "d" + strconv.Itoa(c.ID.Domain)
	text := func(r api.Role) string { return strings.Join([]string{r.Owner, r.Name}, ".") }
	return strings.Join([]string{own, ".", c.Name, " <- ", map[int]string{
		1: c.Who,
		2: text(c.A),
		3: strings.Join([]string{own, c.A.Name, c.B.Name}, "."),
		4: strings.Join([]string{text(c.A), text(c.B)}, " & "),
	}[c.Kind]}, "")
}

// P5.1: the texts of each kind, of each domain; written out for those that show where each part stands.
func TestTextKinds(t *testing.T) {
	for _, c := range valid() {
		if got, e := cred.Text(c); got != textOf(c) || e != api.OK {
			t.Errorf("Text of %+v = %q, %v, want %q", c, got, e, textOf(c))
		}
	}
	want := []string{"d12.a <- ann", "d12.b <- d2.bc", "d12.abcdefgh <- d12.d7.x1234567", "d12.r9 <- d9.g & d16.h0123456"}
	for i, c := range kinds(12, 1) {
		if got, e := cred.Text(c); got != want[i] || e != api.OK {
			t.Errorf("Text = %q, %v, want %q", got, e, want[i])
		}
	}
}

// P5.1: what is not valid has no text.
func TestTextWrong(t *testing.T) {
	for what, c := range wrong() {
		if got, e := cred.Text(c); got != "" || e != api.ErrCred {
			t.Errorf("%s: %q, %v", what, got, e)
		}
	}
}

// fieldwise are valid credentials of which each two differ in a field other than Seq.
func fieldwise() []api.Cred {
	var list []api.Cred
	for _, domain := range []int{1, 2, 11, 16} {
		for _, name := range []string{"a", "b", "d1", "aa"} {
			c := api.Cred{ID: api.ID{Domain: domain, Seq: 3}, Name: name}
			for _, x := range []string{"a", "b", "d1", "aa"} {
				c.Kind, c.Who, c.A, c.B = api.Member, x, api.Role{}, api.Role{}
				list = append(list, c)
				for owner := range mostDomain {
					c.Kind, c.Who, c.A, c.B = api.Include, "", roleOf(owner+1, x), api.Role{}
					list = append(list, c)
				}
				for _, y := range []string{"a", "b", "d1", "aa"} {
					c.Kind, c.A, c.B = api.Link, alone(x), alone(y)
					list = append(list, c)
					for _, owners := range [][2]int{{1, 1}, {1, 2}, {2, 1}, {1, 11}, {11, 1}, {16, 16}} {
						c.Kind, c.A, c.B = api.Both, roleOf(owners[0], x), roleOf(owners[1], y)
						list = append(list, c)
					}
				}
			}
		}
	}
	return list
}

// P5.4: valid credentials that differ in any field but Seq have different texts; those that differ in Seq alone have the same one.
func TestTextsDiffer(t *testing.T) {
	seen := map[string]api.Cred{}
	for _, c := range fieldwise() {
		s, e := cred.Text(c)
		if e != api.OK {
			t.Fatalf("%+v: %v", c, e)
		}
		if other, ok := seen[s]; ok {
			t.Errorf("%+v and %+v have the text %q", c, other, s)
		}
		seen[s] = c
		for _, seq := range []int{1, 2, 3999, 4000} {
			d := c
			d.ID.Seq = seq
			if u, e := cred.Text(d); u != s || e != api.OK {
				t.Errorf("%+v has the text %q, %v, with the Seq 3 %q", d, u, e, s)
			}
		}
	}
}

// number is the encoding of a number below 2^24, in another way than that of wire.
func number(n int) []byte {
	all := []byte{byte(n >> 16), byte(n >> 8), byte(n)}
	for len(all) > 0 && all[0] == 0 {
		all = all[1:]
	}
	return append([]byte{byte(len(all))}, all...)
}

// text is the encoding of a string.
func text(s string) []byte {
	return append(number(len(s)), s...)
}

// part is a part of an encoding.
type part struct {
	what string
	data []byte
}

// partsOf are the parts of the encoding of a credential whose numbers are not negative, whether it is valid or not.
func partsOf(c api.Cred) []part {
	list := []part{{"Domain", number(c.ID.Domain)}, {"Seq", number(c.ID.Seq)}, {"Name", text(c.Name)}, {"Kind", number(c.Kind)}}
	owner := func(r api.Role) []byte {
		n, _ := strconv.Atoi(strings.TrimPrefix(r.Owner, "d"))
		return number(n)
	}
	switch c.Kind {
	case 1:
		list = append(list, part{"Who", text(c.Who)})
	case 2:
		list = append(list, part{"A.Owner", owner(c.A)}, part{"A.Name", text(c.A.Name)})
	case 3:
		list = append(list, part{"A.Name", text(c.A.Name)}, part{"B.Name", text(c.B.Name)})
	case 4:
		list = append(list, part{"A.Owner", owner(c.A)}, part{"A.Name", text(c.A.Name)}, part{"B.Owner", owner(c.B)}, part{"B.Name", text(c.B.Name)})
	}
	return list
}

// joined are the bytes of parts.
func joined(list []part) []byte {
	var all []byte
	for _, p := range list {
		all = append(all, p.data...)
	}
	return all
}

// encodingOf is the encoding of a credential.
func encodingOf(c api.Cred) []byte {
	return joined(partsOf(c))
}

// P5.2: the chapter's example of an encoding, and one of each other kind, byte by byte.
func TestPutExamples(t *testing.T) {
	for text, want := range map[string][]byte{
		"d1.a <- ann":          {1, 1, 1, 3, 1, 1, 97, 1, 1, 1, 3, 97, 110, 110},
		"d1.a <- d2.b":         {1, 1, 1, 3, 1, 1, 97, 1, 2, 1, 2, 1, 1, 98},
		"d1.r <- d1.a.b":       {1, 1, 1, 3, 1, 1, 114, 1, 3, 1, 1, 97, 1, 1, 98},
		"d1.a <- d2.b & d16.c": {1, 1, 1, 3, 1, 1, 97, 1, 4, 1, 2, 1, 1, 98, 1, 16, 1, 1, 99},
	} {
		if got, e := cred.Put(nil, examples()[text]); !bytes.Equal(got, want) || e != api.OK {
			t.Errorf("Put of %s = %v, %v, want %v", text, got, e, want)
		}
	}
	big := api.Cred{ID: api.ID{Domain: 16, Seq: 4000}, Name: "abcdefgh", Kind: 1, Who: "z"}
	want := []byte{1, 16, 2, 15, 160, 1, 8, 97, 98, 99, 100, 101, 102, 103, 104, 1, 1, 1, 1, 122}
	if got, e := cred.Put(nil, big); !bytes.Equal(got, want) || e != api.OK {
		t.Errorf("Put of %+v = %v, %v, want %v", big, got, e, want)
	}
}

// pattern returns n bytes that differ from place to place.
func pattern(n int) []byte {
	b := make([]byte, n)
	for i := range b {
		b[i] = byte(7*i + i/251 + 3)
	}
	return b
}

// P5.2, R4: each kind is put behind bytes; those, and their spare capacity, do not change.
func TestPutBehindBytes(t *testing.T) {
	for _, size := range []int{0, 1, 2, 9, 100} {
		for _, spare := range []int{0, 1, 10, 500} {
			whole := pattern(20 + size + spare)
			b := whole[20 : 20+size]
			for _, c := range valid() {
				want := append(bytes.Clone(b), encodingOf(c)...)
				if got, e := cred.Put(b, c); !bytes.Equal(got, want) || e != api.OK {
					t.Fatalf("Put of %+v behind %d bytes = %v, %v, want %v", c, size, got, e, want)
				}
			}
			cred.Put(b, api.Cred{})
			if !bytes.Equal(whole, pattern(20+size+spare)) {
				t.Errorf("%d bytes, %d to spare: an argument or its spare capacity was changed", size, spare)
			}
		}
	}
}

// P5.2, R2: what is not valid is not put, whatever bytes stand ahead.
func TestPutWrong(t *testing.T) {
	for what, c := range wrong() {
		for _, b := range [][]byte{nil, {}, {1, 2, 3}, make([]byte, 2, 100)} {
			if got, e := cred.Put(b, c); len(got) != 0 || e != api.ErrCred {
				t.Errorf("%s: %v, %v", what, got, e)
			}
		}
	}
}

// R4: what Put returns is new memory, with its spare capacity.
func TestPutIsNew(t *testing.T) {
	for _, size := range []int{0, 1, 8, 64} {
		for _, spare := range []int{0, 1, 9, 200} {
			for _, c := range kinds(16, 4000) {
				whole := pattern(size + spare)
				first, _ := cred.Put(whole[:size], c)
				second, _ := cred.Put(whole[:size], c)
				want := bytes.Clone(second)
				full := first[:cap(first)]
				for i := range full {
					full[i] = 170
				}
				again, _ := cred.Put(whole[:size], c)
				if !bytes.Equal(whole, pattern(size+spare)) || !bytes.Equal(second, want) || !bytes.Equal(again, want) {
					t.Errorf("%d bytes, %d to spare, kind %d: the result shares memory", size, spare, c.Kind)
				}
			}
		}
	}
}

// P5.2, P5.4: what was put is read again, whatever stands ahead of it and follows; the position is just behind it.
func TestReadOfPut(t *testing.T) {
	for _, c := range append(valid(), fieldwise()...) {
		b, e := cred.Put([]byte{1, 77}, c)
		if e != api.OK {
			t.Fatalf("%+v: %v", c, e)
		}
		for _, behind := range [][]byte{nil, {0}, {1, 1}, {255, 255}, b} {
			r := wire.New(append(bytes.Clone(b), behind...))
			if r.Number(77, 77) != 77 {
				t.Fatal("the number ahead is not read")
			}
			if got := cred.Read(r); got != c || r.Err() != api.OK || r.Place() != len(b) {
				t.Errorf("%+v is read as %+v, %v, position %d of %d", c, got, r.Err(), r.Place(), len(b))
			}
		}
	}
}

// P5.2: several credentials, one behind the other, are read one by one, up to the end.
func TestReadMany(t *testing.T) {
	var b []byte
	for _, c := range valid() {
		b, _ = cred.Put(b, c)
	}
	r := wire.New(b)
	for _, c := range valid() {
		if got := cred.Read(r); got != c {
			t.Fatalf("%+v is read as %+v, %v", c, got, r.Err())
		}
	}
	if r.End() != api.OK {
		t.Error(r.End())
	}
	if got := cred.Read(r); got != (api.Cred{}) || r.Err() != api.ErrShort || r.Place() != len(b) {
		t.Errorf("at the end: %+v, %v", got, r.Err())
	}
}

// P5.2: a cursor that is nil, or that has an error, yields the zero credential; the cursor does not change.
func TestReadNothing(t *testing.T) {
	if got := cred.Read(nil); got != (api.Cred{}) {
		t.Errorf("with no cursor: %+v", got)
	}
	for _, c := range kinds(1, 3) {
		for _, e := range []api.Errno{api.ErrArg, api.ErrBytes, api.ErrShort, api.ErrCred, api.ErrScript, -1, 1000} {
			r := wire.New(append([]byte{0}, encodingOf(c)...))
			r.Number(0, 0)
			r.Fail(e)
			if got := cred.Read(r); got != (api.Cred{}) || r.Err() != e || r.Place() != 1 {
				t.Errorf("with the error %v: %+v, %v, position %d", e, got, r.Err(), r.Place())
			}
		}
	}
}

// fails holds what is read of bytes against an error and a position.
func fails(t *testing.T, what string, b []byte, want api.Errno, place int) {
	t.Helper()
	r := wire.New(b)
	if got := cred.Read(r); got != (api.Cred{}) || r.Err() != want || r.End() != want || r.Place() != place {
		t.Errorf("%s: %v: %+v, %v, position %d, want %v and %d", what, b, got, r.Err(), r.Place(), want, place)
	}
}

// P5.2: the beginnings of an encoding are ErrShort; what follows them in the spare capacity is not read.
func TestReadBeginnings(t *testing.T) {
	for _, c := range append(kinds(1, 1), kinds(16, 4000)...) {
		parts := partsOf(c)
		start := 0
		for _, p := range parts {
			for size := range len(p.data) {
				fails(t, p.what, encodingOf(c)[:start+size], api.ErrShort, start)
			}
			start += len(p.data)
		}
	}
}

// replaced is the encoding of a credential with other bytes for one part, and where these begin.
// Whole tells that the other parts follow; else the bytes end there.
func replaced(c api.Cred, what string, data []byte, whole bool) (b []byte, start int) {
	for _, p := range partsOf(c) {
		if p.what != what {
			b = append(b, p.data...)
			continue
		}
		start = len(b)
		b = append(b, data...)
		if !whole {
			break
		}
	}
	return b, start
}

// numbersOf are the parts of a credential that are numbers, with the greatest that each may be.
func numbersOf(kind int) map[string]int {
	most := map[string]int{"Domain": mostDomain, "Seq": mostSeq, "Kind": 4}
	if kind == 2 || kind == 4 {
		most["A.Owner"] = mostDomain
	}
	if kind == 4 {
		most["B.Owner"] = mostDomain
	}
	return most
}

// namesOf are the parts of a credential that are names.
func namesOf(kind int) []string {
	return map[int][]string{1: {"Name", "Who"}, 2: {"Name", "A.Name"}, 3: {"Name", "A.Name", "B.Name"}, 4: {"Name", "A.Name", "B.Name"}}[kind]
}

// P5.2: each number of an encoding at its bounds, out of them, and in a form that is none; the position is ahead of it.
func TestReadNumbers(t *testing.T) {
	for _, c := range kinds(5, 300) {
		for what, most := range numbersOf(c.Kind) {
			for _, whole := range []bool{true, false} {
				for _, n := range []int{0, most + 1, most + 2, most + 256, 1 << 20} {
					b, start := replaced(c, what, number(n), whole)
					fails(t, what+" "+strconv.Itoa(n), b, api.ErrBytes, start)
				}
				for _, data := range [][]byte{
					{1, 0}, {2, 0, 1}, {2, 0, 2}, {3, 0, 0, 1}, {8, 0, 0, 0, 0, 0, 0, 0, 1}, // leading zeros
					{9, 1, 1, 1, 1, 1, 1, 1, 1, 1}, {9, 0, 0, 0, 0, 0, 0, 0, 0, 1}, {255, 1}, // too many bytes
					{8, 127, 255, 255, 255, 255, 255, 255, 255}, {8, 128, 0, 0, 0, 0, 0, 0, 1}, {8, 255, 255, 255, 255, 255, 255, 255, 255}, // too great
				} {
					b, start := replaced(c, what, data, whole)
					fails(t, what, b, api.ErrBytes, start)
				}
			}
			if what == "Kind" {
				continue
			}
			for _, n := range []int{1, most} {
				b, _ := replaced(c, what, number(n), true)
				r := wire.New(b)
				if got := cred.Read(r); r.End() != api.OK || !cred.May(got) || !bytes.Equal(encodingOf(got), b) {
					t.Errorf("%s %d: %+v, %v", what, n, got, r.Err())
				}
			}
		}
	}
}

// P5.2: each name of an encoding that is none: ErrBytes directly behind it, whatever follows or does not.
// A string that is too long, or that ends too soon, or whose length is no number, has the error of Text, ahead of it.
func TestReadNames(t *testing.T) {
	for _, c := range kinds(5, 300) {
		for _, what := range namesOf(c.Kind) {
			for _, whole := range []bool{true, false} {
				for _, s := range noNames {
					b, start := replaced(c, what, text(s), whole)
					if len(s) <= mostName {
						start += len(text(s))
					}
					fails(t, what+" "+strconv.Quote(s), b, api.ErrBytes, start)
				}
				for _, data := range [][]byte{
					{1, 9, 97, 97, 97, 97, 97, 97, 97, 97, 97}, {1, 9}, {1, 255}, {2, 1, 0}, {8, 127, 255, 255, 255, 255, 255, 255, 255}, // too long
					{1, 0}, {2, 0, 1, 97}, {9, 1, 97}, {8, 128, 0, 0, 0, 0, 0, 0, 0}, // no length
				} {
					b, start := replaced(c, what, data, whole)
					fails(t, what, b, api.ErrBytes, start)
				}
			}
			for _, data := range [][]byte{{}, {1}, {1, 1}, {1, 8, 97}, {1, 2, 65}, {1, 8, 65, 65, 65}, {2, 1}, {8, 128}} {
				b, start := replaced(c, what, data, false)
				fails(t, what, b, api.ErrShort, start)
			}
			for _, s := range []string{"a", "z9", "abcdefgh", "d1"} {
				b, _ := replaced(c, what, text(s), true)
				r := wire.New(b)
				if got := cred.Read(r); r.End() != api.OK || !cred.May(got) || !bytes.Equal(encodingOf(got), b) {
					t.Errorf("%s %s: %+v, %v", what, s, got, r.Err())
				}
			}
		}
	}
}

// P5.2: the chapter's example of a name that is none; of several errors the first one counts.
func TestReadFirstError(t *testing.T) {
	fails(t, "A", []byte{1, 1, 1, 3, 1, 1, 65}, api.ErrBytes, 7)
	fails(t, "A, and no Kind 5", []byte{1, 1, 1, 3, 1, 1, 65, 1, 5}, api.ErrBytes, 7)
	fails(t, "A, and half a Kind", []byte{1, 1, 1, 3, 1, 1, 65, 1}, api.ErrBytes, 7)
	fails(t, "no bytes", nil, api.ErrShort, 0)
	fails(t, "the Domain 0, and nothing", []byte{0}, api.ErrBytes, 0)
	fails(t, "the Domain 17, and a wrong Seq", []byte{1, 17, 1, 0}, api.ErrBytes, 0)
	fails(t, "half a Domain", []byte{1}, api.ErrShort, 0)
	fails(t, "the Seq 4001, and nothing", []byte{1, 1, 2, 15, 161}, api.ErrBytes, 2)
	fails(t, "half a Seq that is too great", []byte{1, 1, 2, 255}, api.ErrShort, 2)
	fails(t, "a Name that is none, and is too short", []byte{1, 1, 1, 3, 1, 2, 65}, api.ErrShort, 4)
	fails(t, "an empty Name, and nothing", []byte{1, 1, 1, 3, 0}, api.ErrBytes, 5)
	fails(t, "the Kind 5, and nothing", []byte{1, 1, 1, 3, 1, 1, 97, 1, 5}, api.ErrBytes, 7)
	fails(t, "the Kind 0, and a Who", []byte{1, 1, 1, 3, 1, 1, 97, 0, 1, 1, 97}, api.ErrBytes, 7)
	fails(t, "an Owner of 0, and nothing", []byte{1, 1, 1, 3, 1, 1, 97, 1, 2, 0}, api.ErrBytes, 9)
	fails(t, "a first Name that is none, and no B", []byte{1, 1, 1, 3, 1, 1, 97, 1, 4, 1, 1, 1, 1, 65}, api.ErrBytes, 14)
	fails(t, "no B", []byte{1, 1, 1, 3, 1, 1, 97, 1, 4, 1, 1, 1, 1, 97}, api.ErrShort, 14)
	fails(t, "the B of a Link is none", []byte{1, 1, 1, 3, 1, 1, 97, 1, 3, 1, 1, 97, 0}, api.ErrBytes, 13)
}

// row is the same row of numbers in each run.
type row struct {
	state uint64
}

func (r *row) below(n int) int {
	r.state = r.state*6364136223846793005 + 1442695040888963407
	return int(r.state>>33) % n
}

// P5.2, P5.4, R1: bytes that were changed, left out or added yield either a valid credential, which is encoded as these bytes, or an error.
func TestReadAnyBytes(t *testing.T) {
	r := &row{1}
	list := valid()
	read := 0
	for range 200000 {
		b := encodingOf(list[r.below(len(list))])
		for range 1 + r.below(3) {
			i := r.below(len(b) + 1)
			switch r.below(4) {
			case 0:
				b = slices.Insert(b, i, byte(r.below(20)))
			case 1:
				b = slices.Delete(b, i, min(i+1, len(b)))
			default:
				b = append(b[:i], append([]byte{byte(r.below(256))}, b[min(i+1, len(b)):]...)...)
			}
		}
		c := wire.New(b)
		got := cred.Read(c)
		if c.Err() != api.OK {
			if got != (api.Cred{}) || c.Err() != api.ErrBytes && c.Err() != api.ErrShort || c.Place() > len(b) {
				t.Fatalf("%v: %+v, %v", b, got, c.Err())
			}
			continue
		}
		read++
		if again, e := cred.Put(nil, got); !mayBe(got) || e != api.OK || !bytes.Equal(again, b[:c.Place()]) {
			t.Fatalf("%v: %+v, which is encoded as %v, %v", b, got, again, e)
		}
	}
	if read < 1000 {
		t.Errorf("only %d were read", read)
	}
}

// P5.4: different valid credentials have different encodings, of which none begins another one.
func TestEncodingsDiffer(t *testing.T) {
	var all []string
	for _, c := range append(fieldwise(), kinds(1, 1)...) {
		for _, seq := range []int{1, 256, 4000} {
			c.ID.Seq = seq
			b, _ := cred.Put(nil, c)
			all = append(all, string(b))
		}
	}
	slices.Sort(all)
	for i := 1; i < len(all); i++ {
		if strings.HasPrefix(all[i], all[i-1]) {
			t.Errorf("%v begins with %v", []byte(all[i]), []byte(all[i-1]))
		}
	}
}

// orderedIDs are IDs in their order, also such as no valid credential has.
func orderedIDs() []api.ID {
	var list []api.ID
	numbers := []int{math.MinInt, -4000, -2, -1, 0, 1, 2, 9, 10, 16, 17, 4000, 4001, math.MaxInt - 1, math.MaxInt}
	for _, domain := range numbers {
		for _, seq := range numbers {
			list = append(list, api.ID{Domain: domain, Seq: seq})
		}
	}
	return list
}

// P5.3: of each two IDs one precedes, and of equal ones none.
func TestBefore(t *testing.T) {
	list := orderedIDs()
	for i, a := range list {
		for k, b := range list {
			if got := cred.Before(a, b); got != (i < k) {
				t.Errorf("Before of %v and %v = %v", a, b, got)
			}
		}
	}
}

// withID is a credential with an ID, and with a name by which it is told from others.
func withID(domain, seq int, name string) api.Cred {
	return api.Cred{ID: api.ID{Domain: domain, Seq: seq}, Name: name, Kind: 1, Who: "w"}
}

// P5.3: the chapter's example of sorting.
func TestSortedExample(t *testing.T) {
	list := []api.Cred{withID(2, 1, "a"), withID(1, 9, "b"), withID(1, 9, "c"), withID(1, 2, "d")}
	want := []api.Cred{list[3], list[1], list[2], list[0]}
	if got := cred.Sorted(list); !slices.Equal(got, want) {
		t.Errorf("%v", got)
	}
	list[1].Name, list[2].Name = "c", "b"
	want = []api.Cred{list[3], list[1], list[2], list[0]}
	if got := cred.Sorted(list); !slices.Equal(got, want) {
		t.Errorf("the other way round: %v", got)
	}
}

// P5.3: of no credential and of one, valid or not.
func TestSortedFew(t *testing.T) {
	for _, l := range [][]api.Cred{nil, {}, make([]api.Cred, 0, 9)} {
		if len(cred.Sorted(l)) != 0 || len(cred.Counts(l)) != 0 {
			t.Error("no credential is sorted to some")
		}
	}
	for _, c := range valid() {
		if l := []api.Cred{c}; !slices.Equal(cred.Sorted(l), l) || !slices.Equal(cred.Counts(l), l) {
			t.Errorf("%+v: %v, %v", c, cred.Sorted(l), cred.Counts(l))
		}
	}
	for what, c := range wrong() {
		if l := []api.Cred{c}; !slices.Equal(cred.Sorted(l), l) || len(cred.Counts(l)) != 0 {
			t.Errorf("%s: %v, %v", what, cred.Sorted(l), cred.Counts(l))
		}
	}
}

// lists are rows of credentials of which many have the same ID, and many are not valid.
func lists() [][]api.Cred {
	r := &row{7}
	var all [][]api.Cred
	for range 400 {
		l := make([]api.Cred, r.below(60))
		for i := range l {
			l[i] = withID(1+r.below(4), 1+r.below(5), "n"+strconv.Itoa(i))
			switch r.below(6) {
			case 0:
				l[i].ID.Seq = []int{0, -1, 4001, math.MaxInt, math.MinInt}[r.below(5)]
			case 1:
				l[i].ID.Domain = []int{0, -1, 17, math.MaxInt, math.MinInt}[r.below(5)]
			case 2:
				l[i].Kind = r.below(7)
			}
		}
		all = append(all, l)
	}
	long := make([]api.Cred, 3000)
	for i := range long {
		long[i] = withID(1+i*7%16, 1+i*i%97, "n"+strconv.Itoa(i))
	}
	return append(all, long)
}

// sortedOf is what Sorted is to return: each credential is put behind all that do not follow it.
func sortedOf(l []api.Cred) []api.Cred {
	var all []api.Cred
	for _, c := range l {
		i := len(all)
		for i > 0 && (c.ID.Domain < all[i-1].ID.Domain || c.ID.Domain == all[i-1].ID.Domain && c.ID.Seq < all[i-1].ID.Seq) {
			i--
		}
		all = slices.Insert(all, i, c)
	}
	return all
}

// countsOf is what Counts is to return.
func countsOf(l []api.Cred) []api.Cred {
	seen := map[api.ID]bool{}
	var all []api.Cred
	for _, c := range l {
		if mayBe(c) && !seen[c.ID] {
			seen[c.ID] = true
			all = append(all, c)
		}
	}
	return sortedOf(all)
}

// P5.3: many credentials, in many orders, against a simpler way.
func TestSortedAndCountsMany(t *testing.T) {
	for i, l := range lists() {
		if got := cred.Sorted(l); !slices.Equal(got, sortedOf(l)) {
			t.Errorf("list %d: %v, want %v", i, got, sortedOf(l))
		}
		if got := cred.Counts(l); !slices.Equal(got, countsOf(l)) {
			t.Errorf("list %d: %v, want %v", i, got, countsOf(l))
		}
		if got := cred.Counts(cred.Counts(l)); !slices.Equal(got, cred.Counts(l)) {
			t.Errorf("list %d: what counts does not count: %v", i, got)
		}
	}
}

// P5.3: of those with the same ID the first valid one counts: where the first is valid, and where it is not.
func TestCountsSameID(t *testing.T) {
	first, second, other := withID(1, 9, "a"), withID(1, 9, "b"), withID(1, 2, "c")
	bad := first
	bad.Kind = 5
	for _, x := range []struct {
		l, want []api.Cred
	}{
		{[]api.Cred{first, second}, []api.Cred{first}},
		{[]api.Cred{second, first}, []api.Cred{second}},
		{[]api.Cred{first, first}, []api.Cred{first}},
		{[]api.Cred{bad, second}, []api.Cred{second}},
		{[]api.Cred{bad, second, first}, []api.Cred{second}},
		{[]api.Cred{first, bad, second}, []api.Cred{first}},
		{[]api.Cred{first, other, second}, []api.Cred{other, first}},
		{[]api.Cred{bad, other, bad}, []api.Cred{other}},
		{[]api.Cred{bad, bad}, nil},
		{[]api.Cred{first, withID(2, 9, "a"), second, withID(2, 9, "b"), other}, []api.Cred{other, first, withID(2, 9, "a")}},
	} {
		if got := cred.Counts(x.l); !slices.Equal(got, x.want) {
			t.Errorf("Counts of %v = %v, want %v", x.l, got, x.want)
		}
	}
}

// P5.3: no way of not being valid lets a credential count.
func TestCountsWrong(t *testing.T) {
	good := kinds(1, 3)[1:2]
	for what, c := range wrong() {
		l := []api.Cred{c, good[0], c}
		if got := cred.Counts(l); !slices.Equal(got, good) {
			t.Errorf("%s: %v", what, got)
		}
		if got := cred.Sorted(l); len(got) != 3 || !slices.Equal(got, sortedOf(l)) {
			t.Errorf("%s: Sorted %v", what, got)
		}
	}
}

// R4: Sorted and Counts change neither their argument nor its spare capacity, and what they return is new memory.
func TestListsStay(t *testing.T) {
	for _, call := range []func([]api.Cred) []api.Cred{cred.Sorted, cred.Counts} {
		for i, l := range lists() {
			for _, spare := range []int{0, 1, 100} {
				whole := append(append([]api.Cred{withID(9, 9, "ahead")}, l...), make([]api.Cred, spare)...)
				for k := range spare {
					whole[1+len(l)+k] = withID(1, 1, "s"+strconv.Itoa(k))
				}
				before := slices.Clone(whole)
				arg := whole[1 : 1+len(l)]
				first, second := call(arg), call(arg)
				want := slices.Clone(second)
				full := first[:cap(first)]
				for k := range full {
					full[k] = withID(8, 8, "over")
				}
				if !slices.Equal(whole, before) {
					t.Errorf("list %d: the argument was changed", i)
				}
				clear(whole)
				if !slices.Equal(second, want) {
					t.Errorf("list %d: results share memory", i)
				}
			}
		}
	}
}

// R1: long strings and long lists end soon.
func TestLong(t *testing.T) {
	long := strings.Repeat("a", 1<<22)
	c := api.Cred{ID: api.ID{Domain: 1, Seq: 1}, Name: long, Kind: 4, Who: long, A: api.Role{Owner: long, Name: long}, B: api.Role{Owner: long, Name: long}}
	if s, e := cred.Text(c); cred.May(c) || s != "" || e != api.ErrCred || cred.Role(c).Name != long {
		t.Error("a long name is one")
	}
	list := make([]api.Cred, 1<<17)
	for i := range list {
		list[i] = withID(1+i%16, 1+(i*2654435761)%4000, "n"+strconv.Itoa(i))
	}
	sorted := cred.Sorted(list)
	if !slices.IsSortedFunc(sorted, func(a, b api.Cred) int {
		if a.ID == b.ID {
			return 0
		}
		if cred.Before(a.ID, b.ID) {
			return -1
		}
		return 1
	}) || len(sorted) != len(list) {
		t.Error("a long list is not sorted")
	}
	ids := map[api.ID]bool{}
	for _, c := range list {
		ids[c.ID] = true
	}
	if got := cred.Counts(list); len(got) != len(ids) {
		t.Errorf("%d count, want %d", len(got), len(ids))
	}
}

// R5: the same calls at one time, and again, have the same results.
func TestTogether(t *testing.T) {
	list := valid()
	var all sync.WaitGroup
	for range 8 {
		all.Go(func() {
			for _, c := range list {
				s, e := cred.Text(c)
				b, f := cred.Put(nil, c)
				if s != textOf(c) || e != api.OK || f != api.OK || cred.Read(wire.New(b)) != c {
					t.Error(s, e, f)
				}
			}
			if !slices.Equal(cred.Sorted(list), sortedOf(list)) || !slices.Equal(cred.Counts(list), countsOf(list)) {
				t.Error("sorted in another way")
			}
		})
	}
	all.Wait()
}
