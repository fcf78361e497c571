package solve_test

import (
	"math"
	"math/rand/v2"
	"slices"
	"strconv"
	"strings"
	"sync"
	"testing"

	"livery/api"
	"livery/cred"
	"livery/names"
	"livery/solve"
)

// written returns the credential with a text, whose Seq is handed in.
func written(seq int, text string) api.Cred {
	left, right, found := strings.Cut(text, " <- ")
	role := roleOf(left)
	c := api.Cred{ID: api.ID{Domain: names.Number(role.Owner), Seq: seq}, Name: role.Name}
	a, b, two := strings.Cut(right, " & ")
	parts := strings.Split(right, ".")
	switch {
	case two:
		c.Kind, c.A, c.B = 4, roleOf(a), roleOf(b)
	case len(parts) == 3:
		c.Kind, c.A.Name, c.B.Name = 3, parts[1], parts[2]
	case len(parts) == 2:
		c.Kind, c.A = 2, roleOf(right)
	default:
		c.Kind, c.Who = 1, right
	}
	if got, e := cred.Text(c); !found || e != 0 || got != text {
		panic("a test's credential has another text than " + text + ": " + got)
	}
	return c
}

// list returns the credentials with these texts. Their Seqs are their places, from 1 on.
func list(texts ...string) []api.Cred {
	var l []api.Cred
	for i, text := range texts {
		l = append(l, written(i+1, text))
	}
	return l
}

// roleOf returns the role that has a text.
func roleOf(text string) api.Role {
	owner, name, _ := strings.Cut(text, ".")
	return api.Role{Owner: owner, Name: name}
}

// pairs returns the pairs that are written as a role, a blank and the names that have it.
func pairs(lines ...string) []solve.Pair {
	var all []solve.Pair
	for _, line := range lines {
		words := strings.Fields(line)
		for _, who := range words[1:] {
			all = append(all, solve.Pair{Role: roleOf(words[0]), Who: who})
		}
	}
	return all
}

// told returns pairs as text.
func told(l []solve.Pair) string {
	var b strings.Builder
	for _, p := range l {
		b.WriteString(" (" + strconv.Quote(names.Text(p.Role)) + ", " + strconv.Quote(p.Who) + ")")
	}
	return b.String()
}

// texts returns credentials as text, also such as are not valid.
func texts(l []api.Cred) string {
	var b strings.Builder
	for _, c := range l {
		text, e := cred.Text(c)
		if e != 0 {
			text = "not valid, Who " + strconv.Quote(c.Who)
		}
		b.WriteString("\n\t" + strconv.Itoa(c.ID.Domain) + " " + strconv.Itoa(c.ID.Seq) + ": " + text)
	}
	return b.String()
}

// set is a set of pairs.
type set map[solve.Pair]bool

// setOf returns the set of the pairs of a list.
func setOf(l []solve.Pair) set {
	s := set{}
	for _, p := range l {
		s[p] = true
	}
	return s
}

// effective returns the credentials of l that are valid, and the first with their ID.
func effective(l []api.Cred) []api.Cred {
	seen := map[api.ID]bool{}
	var all []api.Cred
	for _, c := range l {
		if cred.May(c) && !seen[c.ID] {
			seen[c.ID] = true
			all = append(all, c)
		}
	}
	return all
}

// people returns all names that occur in the Members of l, or in s.
func people(l []api.Cred, s set) []string {
	var all []string
	for _, c := range l {
		if c.Kind == 1 {
			all = append(all, c.Who)
		}
	}
	for p := range s {
		all = append(all, p.Who)
	}
	slices.Sort(all)
	return slices.Compact(all)
}

// asks reports whether the rule of an effective credential asks for x to have its role, where the pairs s hold.
func (s set) asks(c api.Cred, x string) bool {
	switch c.Kind {
	case 1:
		return x == c.Who
	case 2:
		return s[solve.Pair{Role: c.A, Who: x}]
	case 4:
		return s[solve.Pair{Role: c.A, Who: x}] && s[solve.Pair{Role: c.B, Who: x}]
	}
	for n := 1; n <= 16; n++ {
		y := "d" + strconv.Itoa(n)
		first := solve.Pair{Role: api.Role{Owner: "d" + strconv.Itoa(c.ID.Domain), Name: c.A.Name}, Who: y}
		second := solve.Pair{Role: api.Role{Owner: y, Name: c.B.Name}, Who: x}
		if s[first] && s[second] {
			return true
		}
	}
	return false
}

// broken returns the pairs that the rules of l ask for, and that s does not have.
func (s set) broken(l []api.Cred) []solve.Pair {
	var all []solve.Pair
	people := people(l, s)
	for _, c := range effective(l) {
		role := api.Role{Owner: "d" + strconv.Itoa(c.ID.Domain), Name: c.Name}
		for _, x := range people {
			if p := (solve.Pair{Role: role, Who: x}); !s[p] && s.asks(c, x) {
				all = append(all, p)
			}
		}
	}
	return all
}

// close adds to s what the rules of l ask for, until they ask for nothing more.
func (s set) close(l []api.Cred) {
	for {
		more := s.broken(l)
		if len(more) == 0 {
			return
		}
		for _, p := range more {
			s[p] = true
		}
	}
}

// ordered returns the pairs of s, in order.
func (s set) ordered() []solve.Pair {
	var all []solve.Pair
	for p := range s {
		all = append(all, p)
	}
	slices.SortFunc(all, func(a, b solve.Pair) int {
		for _, n := range []int{strings.Compare(a.Role.Owner, b.Role.Owner), strings.Compare(a.Role.Name, b.Role.Name)} {
			if n != 0 {
				return n
			}
		}
		return strings.Compare(a.Who, b.Who)
	})
	return all
}

// implied returns what l implies, told by trying all rules again and again.
func implied(l []api.Cred) []solve.Pair {
	s := set{}
	s.close(l)
	return s.ordered()
}

// expect demands that l implies these pairs, which are in order, and no others, in the answers of all three calls.
func expect(t *testing.T, l []api.Cred, want []solve.Pair) {
	t.Helper()
	if got := solve.All(l); !slices.Equal(got, want) {
		t.Errorf("All of%s\nis%s\nwant%s", texts(l), told(got), told(want))
	}
	roles := map[api.Role]bool{{Owner: "d1", Name: "nobody"}: true}
	for _, c := range l {
		roles[cred.Role(c)], roles[c.A], roles[c.B] = true, true, true
	}
	all := setOf(want)
	for role := range roles {
		var members []string
		for _, p := range want {
			if p.Role == role {
				members = append(members, p.Who)
			}
		}
		if got := solve.Members(l, role); !slices.Equal(got, members) {
			t.Errorf("Members(%s) of%s\nis %q, want %q", names.Text(role), texts(l), got, members)
		}
	}
	for _, who := range append(people(l, all), "nobody") {
		for role := range roles {
			if got, has := solve.Has(l, who, role), all[solve.Pair{Role: role, Who: who}]; got != has {
				t.Errorf("Has(%s, %s) of%s\nis %v", who, names.Text(role), texts(l), got)
			}
		}
	}
}

// P6.1: the chapter's own examples, and those of the whole.
func TestExamples(t *testing.T) {
	l := list("d1.b <- d2", "d1.b <- ann")
	if got := solve.Members(l, roleOf("d1.b")); !slices.Equal(got, []string{"ann", "d2"}) {
		t.Error(got)
	}
	l = list("d1.a <- d2.b", "d2.b <- ann")
	expect(t, l, pairs("d1.a ann", "d2.b ann"))
	if !solve.Has(l, "ann", roleOf("d1.a")) || solve.Has(l, "bob", roleOf("d1.a")) {
		t.Error("d1.a")
	}
	l = list("d1.a <- d1.b.c", "d1.b <- d2", "d2.c <- bob")
	expect(t, l, pairs("d1.a bob", "d1.b d2", "d2.c bob"))
	if got := solve.Members(l, roleOf("d1.a")); !slices.Equal(got, []string{"bob"}) {
		t.Error(got)
	}
	if !solve.Has(l, "bob", roleOf("d1.a")) || solve.Has(l, "d2", roleOf("d1.a")) {
		t.Error("d1.a")
	}
}

// P6.1, P6.2, P6.3: what lists of each kind imply, and nothing else.
func TestAll(t *testing.T) {
	for _, x := range []struct {
		what  string
		texts []string
		want  []string
	}{
		{"none", nil, nil},
		{"a Member", []string{"d1.a <- ann"}, []string{"d1.a ann"}},
		{"a Member that is a domain", []string{"d1.a <- d1"}, []string{"d1.a d1"}},
		{"an Include alone", []string{"d1.a <- d2.b"}, nil},
		{"an Include of its own role alone", []string{"d1.a <- d1.a"}, nil},
		{"a Link alone", []string{"d1.a <- d1.b.c"}, nil},
		{"a Link of its own role alone", []string{"d1.a <- d1.a.a"}, nil},
		{"a Both alone", []string{"d1.a <- d2.b & d3.c"}, nil},
		{"a Both of its own role alone", []string{"d1.a <- d1.a & d1.a"}, nil},
		{"one of each kind, and nothing that they ask for", []string{"d1.a <- ann", "d1.b <- d2.b", "d1.c <- d1.d.e", "d1.f <- d2.g & d3.h"}, []string{"d1.a ann"}},

		{"two Members of one role", []string{"d1.a <- bob", "d1.a <- ann"}, []string{"d1.a ann bob"}},
		{"one Member twice", []string{"d1.a <- bob", "d1.a <- bob"}, []string{"d1.a bob"}},
		{"one name with two roles", []string{"d2.a <- bob", "d1.a <- bob"}, []string{"d1.a bob", "d2.a bob"}},

		{"an Include of a role of its own domain", []string{"d1.a <- d1.b", "d1.b <- ann"}, []string{"d1.a ann", "d1.b ann"}},
		{"an Include of a role that nobody has", []string{"d1.a <- d1.b", "d1.c <- ann", "d2.b <- bob"}, []string{"d1.c ann", "d2.b bob"}},
		{"an Include does not lead back", []string{"d1.a <- d2.b", "d1.a <- ann"}, []string{"d1.a ann"}},
		{"an Include of all that have the role", []string{"d2.b <- d16", "d1.a <- d2.b", "d2.b <- ann"}, []string{"d1.a ann d16", "d2.b ann d16"}},
		{"two Includes of one role", []string{"d3.a <- d2.b", "d1.a <- d2.b", "d2.b <- ann"}, []string{"d1.a ann", "d2.b ann", "d3.a ann"}},

		{"a Link by two domains", []string{"d1.a <- d1.b.c", "d1.b <- d2", "d1.b <- d16", "d2.c <- ann", "d16.c <- bob"}, []string{"d1.a ann bob", "d1.b d16 d2", "d16.c bob", "d2.c ann"}},
		{"a Link by its own domain", []string{"d1.a <- d1.b.c", "d1.b <- d1", "d1.c <- ann"}, []string{"d1.a ann", "d1.b d1", "d1.c ann"}},
		{"a Link whose first role is another domain's", []string{"d1.a <- d1.b.c", "d2.b <- d3", "d3.c <- ann"}, []string{"d2.b d3", "d3.c ann"}},
		{"a Link whose first role has names that are no domains", []string{"d1.a <- d1.b.c", "d1.b <- ann", "d1.b <- d17", "d1.b <- d0", "d1.b <- d", "d1.b <- d01", "d2.c <- bob"}, []string{"d1.b ann d d0 d01 d17", "d2.c bob"}},
		{"a Link to a domain without that role", []string{"d1.a <- d1.b.c", "d1.b <- d2", "d3.c <- bob", "d2.d <- bob"}, []string{"d1.b d2", "d2.d bob", "d3.c bob"}},
		{"a Link whose first role nobody has", []string{"d1.a <- d1.b.c", "d2.c <- bob", "d1.c <- ann"}, []string{"d1.c ann", "d2.c bob"}},
		{"a Link whose two names are the same", []string{"d1.a <- d1.b.b", "d1.b <- d2", "d2.b <- bob"}, []string{"d1.a bob", "d1.b d2", "d2.b bob"}},
		{"a Link to a domain that has the second role itself", []string{"d1.a <- d1.b.c", "d1.b <- d2", "d2.c <- d2"}, []string{"d1.a d2", "d1.b d2", "d2.c d2"}},
		{"a Link whose first role is its own", []string{"d1.a <- d1.a.b", "d1.a <- d2", "d2.b <- d3", "d3.b <- ann"}, []string{"d1.a ann d2 d3", "d2.b d3", "d3.b ann"}},
		{"a Link whose second role is its own", []string{"d1.a <- d1.b.a", "d1.b <- d1", "d1.a <- ann"}, []string{"d1.a ann", "d1.b d1"}},
		{"a Link whose both roles are its own", []string{"d1.a <- d1.a.a", "d1.a <- d1", "d1.a <- d2", "d2.a <- ann"}, []string{"d1.a ann d1 d2", "d2.a ann"}},
		{"a Link to its own role alone", []string{"d1.a <- d1.b.a", "d1.b <- d1"}, []string{"d1.b d1"}},
		{"Links that find domains by one another", []string{"d1.a <- d1.b.c", "d1.b <- d1.x.c", "d1.x <- d2", "d2.c <- d3", "d3.c <- d4", "d4.c <- ann"}, []string{"d1.a d4", "d1.b d3", "d1.x d2", "d2.c d3", "d3.c d4", "d4.c ann"}},
		{"two Links that make first roles for each other", []string{"d1.a <- d1.b.c", "d1.b <- d1.a.c", "d1.a <- d2", "d2.c <- d3", "d3.c <- d4", "d4.c <- ann"}, []string{"d1.a d2 d4", "d1.b ann d3", "d2.c d3", "d3.c d4", "d4.c ann"}},

		{"a Both, a name with its first role alone", []string{"d1.a <- d2.b & d3.c", "d2.b <- ann"}, []string{"d2.b ann"}},
		{"a Both, a name with its second role alone", []string{"d1.a <- d2.b & d3.c", "d3.c <- ann"}, []string{"d3.c ann"}},
		{"a Both, one name with each", []string{"d1.a <- d2.b & d3.c", "d2.b <- ann", "d3.c <- bob"}, []string{"d2.b ann", "d3.c bob"}},
		{"a Both, a name with both", []string{"d1.a <- d2.b & d3.c", "d2.b <- ann", "d3.c <- bob", "d3.c <- ann"}, []string{"d1.a ann", "d2.b ann", "d3.c ann bob"}},
		{"a Both of one role twice", []string{"d1.a <- d2.b & d2.b", "d2.b <- ann"}, []string{"d1.a ann", "d2.b ann"}},
		{"a Both of its own role and another one", []string{"d1.a <- d1.a & d2.b", "d2.b <- ann"}, []string{"d2.b ann"}},
		{"a Both of a role and what follows of it", []string{"d1.a <- d1.b & d1.c", "d1.b <- d1.c", "d1.c <- ann"}, []string{"d1.a ann", "d1.b ann", "d1.c ann"}},

		{"in several ways", []string{"d1.a <- ann", "d1.a <- d2.b", "d2.b <- ann", "d1.a <- d1.x.b", "d1.x <- d2", "d1.a <- d2.b & d1.a", "d1.a <- d1.a"}, []string{"d1.a ann", "d1.x d2", "d2.b ann"}},
		{"a Link by several domains to one name", []string{"d1.a <- d1.b.c", "d1.b <- d2", "d1.b <- d3", "d2.c <- ann", "d3.c <- ann"}, []string{"d1.a ann", "d1.b d2 d3", "d2.c ann", "d3.c ann"}},

		{"two Includes of each other", []string{"d1.a <- d2.b", "d2.b <- d1.a"}, nil},
		{"two Includes of each other, and a Member", []string{"d1.a <- d2.b", "d2.b <- d1.a", "d2.b <- ann"}, []string{"d1.a ann", "d2.b ann"}},
		{"three Includes in a ring", []string{"d1.a <- d2.a", "d2.a <- d3.a", "d3.a <- d1.a", "d2.a <- ann"}, []string{"d1.a ann", "d2.a ann", "d3.a ann"}},
		{"two Boths of each other", []string{"d1.a <- d1.b & d1.c", "d1.b <- d1.a & d1.c", "d1.c <- ann"}, []string{"d1.c ann"}},
		{"a chain of all kinds, back to itself", []string{"d1.a <- d2.b", "d2.b <- d2.x.c", "d2.x <- d3", "d3.c <- d3.d & d3.e", "d3.d <- d1.a", "d3.e <- ann", "d3.d <- ann", "d3.e <- bob"},
			[]string{"d1.a ann", "d2.b ann", "d2.x d3", "d3.c ann", "d3.d ann", "d3.e ann bob"}},
		{"the same ring, and nobody to begin with", []string{"d1.a <- d2.b", "d2.b <- d2.x.c", "d2.x <- d3", "d3.c <- d3.d & d3.e", "d3.d <- d1.a", "d3.e <- ann", "d3.e <- bob"},
			[]string{"d2.x d3", "d3.e ann bob"}},
		{"domains that are found by an Include and a Both", []string{"d1.a <- d1.b.c", "d1.b <- d2.x & d2.y", "d2.x <- d2.z", "d2.z <- d3", "d2.y <- d3", "d3.c <- ann"},
			[]string{"d1.a ann", "d1.b d3", "d2.x d3", "d2.y d3", "d2.z d3", "d3.c ann"}},
	} {
		l := list(x.texts...)
		t.Run(x.what, func(t *testing.T) {
			expect(t, l, pairs(x.want...))
			expect(t, backwards(l), pairs(x.want...))
		})
	}
}

// backwards returns a list turned round.
func backwards(l []api.Cred) []api.Cred {
	l = append([]api.Cred(nil), l...)
	slices.Reverse(l)
	return l
}

// P6.1: pairs are in the order of Owners, Names and names, byte by byte; Members in ascending order.
func TestOrder(t *testing.T) {
	l := list(
		"d2.a <- x", "d10.a <- x", "d1.a <- x", "d16.a <- x",
		"d1.ab <- x", "d1.b <- x", "d1.a0 <- x", "d1.aa <- x", "d1.abcdefgh <- x",
		"d9.a <- b", "d9.a <- ab", "d9.a <- a", "d9.a <- a0", "d9.a <- d2", "d9.a <- d10", "d9.a <- d1", "d9.a <- d16", "d9.a <- z", "d9.a <- zzzzzzzz", "d9.a <- z9", "d9.a <- a10", "d9.a <- a9",
	)
	want := pairs(
		"d1.a x", "d1.a0 x", "d1.aa x", "d1.ab x", "d1.abcdefgh x", "d1.b x", "d10.a x", "d16.a x", "d2.a x",
		"d9.a a a0 a10 a9 ab b d1 d10 d16 d2 z z9 zzzzzzzz")
	expect(t, l, want)
	expect(t, backwards(l), want)
	for i := range want {
		for j := range want {
			less := names.Less(want[i].Role, want[j].Role) || want[i].Role == want[j].Role && want[i].Who < want[j].Who
			if less != (i < j) {
				t.Error("the test's own order", i, j)
			}
		}
	}
}

// P6.1: all 16 domains are found by a Link, and all have roles.
func TestDomains(t *testing.T) {
	for n := 1; n <= 16; n++ {
		d := "d" + strconv.Itoa(n)
		for m := 1; m <= 16; m++ {
			y := "d" + strconv.Itoa(m)
			l := list(d+".a <- "+d+".b.c", d+".b <- "+y, y+".c <- bob")
			if got := solve.Members(l, roleOf(d+".a")); !slices.Equal(got, []string{"bob"}) {
				t.Error(d, y, got)
			}
			if !solve.Has(l, "bob", roleOf(d+".a")) || len(solve.All(l)) != 3 {
				t.Error(d, y, told(solve.All(l)))
			}
		}
	}
}

// P6.1: nobody has what is no role, and what is no name has none.
func TestNone(t *testing.T) {
	l := append(list("d1.b <- d2", "d1.b <- ann", "d1.a <- d1.b", "d1.l <- d1.b.c", "d2.c <- bob"), api.Cred{ID: api.ID{Domain: 17, Seq: 1}, Name: "a", Kind: 1, Who: "ann"}, api.Cred{Name: "a", Kind: 1, Who: "ann"})
	for _, role := range []api.Role{{}, {Name: "a"}, {Name: "b"}, {Owner: "d1"}, {Owner: "d17", Name: "a"}, {Owner: "d01", Name: "a"}, {Owner: "D1", Name: "a"}, {Owner: "x", Name: "b"}, {Owner: "d1", Name: "A"}, {Owner: "d1", Name: "a "}, {Owner: "d1.", Name: "a"}, {Owner: "d1", Name: ".a"}, {Owner: "d1", Name: "b.c"}, {Owner: "d3", Name: "b"}, {Owner: "d1\x00", Name: "b"}, {Owner: "\xff", Name: "\xff"}, {Owner: strings.Repeat("d1", 1000), Name: strings.Repeat("b", 1000)}} {
		if got := solve.Members(l, role); got != nil {
			t.Errorf("Members(%q): %q", names.Text(role), got)
		}
		for _, who := range []string{"", "ann", "d2", "bob"} {
			if solve.Has(l, who, role) {
				t.Errorf("Has(%q, %q)", who, names.Text(role))
			}
		}
	}
	for _, who := range []string{"", "Ann", "ann ", "an", "annn", "d3", "d02", "d", "d1.b", "\x00", "\xff", strings.Repeat("ann", 1000)} {
		for _, role := range []string{"d1.a", "d1.b", "d1.l", "d2.c"} {
			if solve.Has(l, who, roleOf(role)) {
				t.Errorf("Has(%q, %q)", who, role)
			}
		}
	}
}

// P6.5, P6.1: credentials that are not effective make no difference; of several with one ID the first valid one counts.
func TestEffective(t *testing.T) {
	a, b := written(1, "d1.a <- ann"), written(1, "d1.a <- bob")
	expect(t, []api.Cred{a, b}, pairs("d1.a ann"))
	expect(t, []api.Cred{b, a}, pairs("d1.a bob"))
	expect(t, []api.Cred{a, written(1, "d1.b <- d1.a")}, pairs("d1.a ann"))
	expect(t, []api.Cred{a, written(1, "d2.a <- bob"), written(2, "d1.a <- cid")}, pairs("d1.a ann cid", "d2.a bob"))
	spoilt := func(make func(c *api.Cred)) api.Cred {
		c := b
		make(&c)
		return c
	}
	for _, c := range []api.Cred{
		{},
		spoilt(func(c *api.Cred) { c.ID.Domain = 0 }), spoilt(func(c *api.Cred) { c.ID.Domain = 17 }), spoilt(func(c *api.Cred) { c.ID.Domain = -1 }),
		spoilt(func(c *api.Cred) { c.ID.Seq = 0 }), spoilt(func(c *api.Cred) { c.ID.Seq = 4001 }), spoilt(func(c *api.Cred) { c.ID.Seq = -1 }),
		spoilt(func(c *api.Cred) { c.Name = "" }), spoilt(func(c *api.Cred) { c.Name = "A" }),
		spoilt(func(c *api.Cred) { c.Kind = 0 }), spoilt(func(c *api.Cred) { c.Kind = 5 }), spoilt(func(c *api.Cred) { c.Kind = 2 }), spoilt(func(c *api.Cred) { c.Kind = 3 }), spoilt(func(c *api.Cred) { c.Kind = 4 }),
		spoilt(func(c *api.Cred) { c.Who = "" }), spoilt(func(c *api.Cred) { c.Who = "Bob" }), spoilt(func(c *api.Cred) { c.A = roleOf("d1.a") }), spoilt(func(c *api.Cred) { c.B.Name = "a" }),
		{ID: a.ID, Name: "a", Kind: 2, A: roleOf("d17.b")}, {ID: a.ID, Name: "a", Kind: 2, A: roleOf("d2.b"), Who: "bob"},
		{ID: a.ID, Name: "a", Kind: 3, A: roleOf("d1.x"), B: roleOf(".c")}, {ID: a.ID, Name: "a", Kind: 3, A: roleOf(".x")},
		{ID: a.ID, Name: "a", Kind: 4, A: roleOf("d2.b"), B: roleOf(".b")}, {ID: a.ID, Name: "a", Kind: 4, B: roleOf("d2.b")},
	} {
		rest := list("d2.a <- d2.b", "d2.b <- cid", "d1.c <- d1.x.c", "d1.x <- d2", "d2.c <- cid")[1:]
		want := pairs("d1.a ann", "d1.c cid", "d1.x d2", "d2.b cid", "d2.c cid")
		expect(t, slices.Concat([]api.Cred{c, a}, rest), want)
		expect(t, slices.Concat([]api.Cred{a, c}, rest), want)
		expect(t, slices.Concat(rest, []api.Cred{c, c}, backwards(rest), []api.Cred{a, c, b}), want)
	}
}

// source makes lists that are always the same ones.
func source(seed uint64) *rand.Rand {
	return rand.New(rand.NewPCG(seed, 6))
}

// world is what the credentials of a list are made of.
type world struct {
	domains, roles, people []string
}

var (
	small = world{[]string{"d1", "d2"}, []string{"a", "b"}, []string{"x", "d1", "d2"}}
	wide  = world{[]string{"d1", "d2", "d10", "d16"}, []string{"a", "ab", "b", "c", "d1"}, []string{"an", "ann", "bob", "d1", "d2", "d10", "d16", "d17", "d3"}}
	large = world{
		[]string{"d1", "d2", "d3", "d4", "d5", "d6", "d7", "d8", "d9", "d10", "d11", "d12", "d13", "d14", "d15", "d16"},
		[]string{"a", "b", "c", "e", "f", "g"},
		[]string{"ann", "bob", "cid", "d1", "d2", "d3", "d4", "d5", "d6", "d7", "d8", "d9", "d10", "d11", "d12", "d13", "d14", "d15", "d16", "d17"},
	}
)

// some returns n credentials, with different IDs, in no order.
func (w world) some(r *rand.Rand, n int) []api.Cred {
	of := func(l []string) string { return l[r.IntN(len(l))] }
	role := func() string { return of(w.domains) + "." + of(w.roles) }
	var l []api.Cred
	for _, seq := range r.Perm(n) {
		d := of(w.domains)
		text := d + "." + of(w.roles) + " <- "
		switch r.IntN(5) {
		case 0:
			text += of(w.people)
		case 1:
			text += of(w.domains)
		case 2:
			text += role()
		case 3:
			text += d + "." + of(w.roles) + "." + of(w.roles)
		case 4:
			text += role() + " & " + role()
		}
		l = append(l, written(seq+1, text))
	}
	return l
}

// many calls try with many lists of each world.
func many(try func(r *rand.Rand, w world, l []api.Cred)) {
	for seed := range uint64(1200) {
		r := source(seed)
		try(r, small, small.some(r, r.IntN(9)))
		try(r, wide, wide.some(r, r.IntN(40)))
	}
	for seed := range uint64(25) {
		r := source(seed)
		try(r, large, large.some(r, 20+r.IntN(150)))
	}
}

// P6.1, P6.2, P6.3: the pairs of many lists are those that trying all rules again and again finds.
func TestManyLists(t *testing.T) {
	pairs, most := 0, 0
	many(func(r *rand.Rand, w world, l []api.Cred) {
		want := implied(l)
		pairs, most = pairs+len(want), max(most, len(want))
		if got := solve.All(l); !slices.Equal(got, want) {
			t.Fatalf("All of%s\nis%s\nwant%s", texts(l), told(got), told(want))
		}
		all := setOf(want)
		for range 6 {
			role := api.Role{Owner: w.domains[r.IntN(len(w.domains))], Name: w.roles[r.IntN(len(w.roles))]}
			who := w.people[r.IntN(len(w.people))]
			if got := solve.Has(l, who, role); got != all[solve.Pair{Role: role, Who: who}] {
				t.Fatalf("Has(%s, %s) of%s\nis %v", who, names.Text(role), texts(l), got)
			}
			var members []string
			for _, p := range want {
				if p.Role == role {
					members = append(members, p.Who)
				}
			}
			if got := solve.Members(l, role); !slices.Equal(got, members) {
				t.Fatalf("Members(%s) of%s\nis %q, want %q", names.Text(role), texts(l), got, members)
			}
		}
	})
	if pairs < 10000 || most < 300 {
		t.Error("the lists imply few pairs:", pairs, most)
	}
}

// P6.2: all rules hold for the pairs that a list implies.
func TestClosed(t *testing.T) {
	many(func(r *rand.Rand, w world, l []api.Cred) {
		if more := setOf(solve.All(l)).broken(l); len(more) > 0 {
			t.Fatalf("All of%s\nlacks%s", texts(l), told(more))
		}
	})
}

// P6.3: a set of pairs for which the rules hold has all pairs that a list implies, whatever it has beside them.
func TestLeast(t *testing.T) {
	many(func(r *rand.Rand, w world, l []api.Cred) {
		s := set{}
		for range r.IntN(5) {
			s[solve.Pair{Role: api.Role{Owner: w.domains[r.IntN(len(w.domains))], Name: w.roles[r.IntN(len(w.roles))]}, Who: w.people[r.IntN(len(w.people))]}] = true
		}
		s.close(l)
		for _, p := range solve.All(l) {
			if !s[p] {
				t.Fatalf("All of%s\nhas%s, which the rules don't ask for", texts(l), told([]solve.Pair{p}))
			}
		}
	})
}

// P6.3: of the sets that are parts of what a list implies, the rules hold for the whole one alone.
func TestNoSmallerSet(t *testing.T) {
	tried := 0
	for seed := range uint64(300) {
		r := source(seed)
		l := small.some(r, 2+r.IntN(7))
		all := solve.All(l)
		if len(all) > 7 {
			continue
		}
		for bits := range 1<<len(all) - 1 {
			s := set{}
			for i, p := range all {
				if bits>>i&1 == 1 {
					s[p] = true
				}
			}
			tried++
			if len(s.broken(l)) == 0 {
				t.Fatalf("All of%s\nis%s, but the rules hold for%s", texts(l), told(all), told(s.ordered()))
			}
		}
	}
	if tried < 1000 {
		t.Error("few sets:", tried)
	}
}

// P6.4: credentials behind a list take no pair away.
func TestMonotonic(t *testing.T) {
	many(func(r *rand.Rand, w world, l []api.Cred) {
		for range 2 {
			more := append(append([]api.Cred(nil), l...), w.some(r, 1+r.IntN(len(l)+1))...) // some have IDs that l has too
			after := setOf(solve.All(more))
			for i, p := range solve.All(l) {
				if !after[p] || i < 3 && !solve.Has(more, p.Who, p.Role) {
					t.Fatalf("All of%s\nhas%s, but not with more credentials%s", texts(l), told([]solve.Pair{p}), texts(more))
				}
			}
			l = more
		}
	})
}

// P6.5: the order of credentials with different IDs, and such as are not effective, make no difference.
func TestOrderOfCredentials(t *testing.T) {
	many(func(r *rand.Rand, w world, l []api.Cred) {
		want := solve.All(l)
		if got := solve.All(backwards(l)); !slices.Equal(got, want) {
			t.Fatalf("All of%s\nis%s, turned round%s", texts(l), told(want), told(got))
		}
		mixed := append([]api.Cred(nil), l...)
		r.Shuffle(len(mixed), func(i, j int) { mixed[i], mixed[j] = mixed[j], mixed[i] })
		var all []api.Cred
		for _, c := range mixed {
			bad := w.some(r, 1)[0]
			switch r.IntN(4) {
			case 0:
				bad.Kind += 4
			case 1:
				bad.ID.Domain += 16
			case 2:
				bad.ID.Seq += 4000
			case 3:
				bad.Name += "-"
			}
			bad.ID = [2]api.ID{bad.ID, c.ID}[r.IntN(2)]
			if cred.May(bad) { // it has the ID of c, and no other fault
				bad.Who += "!"
			}
			other := w.some(r, 1)[0]
			other.ID, other.Kind, other.Who, other.A, other.B = c.ID, 1, "other", api.Role{}, api.Role{}
			all = append(all, bad, c, other)
		}
		if got := solve.All(all); !slices.Equal(got, want) {
			t.Fatalf("All of%s\nis%s, of%s\n%s", texts(l), told(want), texts(all), told(got))
		}
	})
}

// word returns the name with a number: w0, w1, ..
func word(i int) string {
	return "w" + strconv.Itoa(i)
}

// P6.1: long chains of each kind, also such as lead back to their beginning.
func TestLongChains(t *testing.T) {
	const n = 2000
	role := func(i int) string { return "d1." + word(i) }
	chains := map[string]func(i int) string{
		"Include": func(i int) string { return role(i) + " <- " + role(i-1) },
		"Both":    func(i int) string { return role(i) + " <- " + role(i-1) + " & " + role(i/2) },
		"Link":    func(i int) string { return role(i) + " <- d1.x." + word(i-1) },
		"first":   func(i int) string { return role(i) + " <- d1." + word(i-1) + ".back" },
	}
	for kind, link := range chains {
		who := map[bool]string{true: "d1", false: "ann"}[kind == "first"]
		texts := []string{role(0) + " <- " + who, "d1.x <- d1", "d1.back <- d1"}
		for i := 1; i < n; i++ {
			texts = append(texts, link(i))
		}
		ring := append(append([]string(nil), texts...), role(0)+" <- "+role(n-1))
		for _, l := range [][]api.Cred{list(texts...), backwards(list(texts...)), list(ring...), backwards(list(ring...))} {
			if got := solve.Members(l, roleOf(role(n-1))); !slices.Equal(got, []string{who}) {
				t.Error(kind, len(l), got)
			}
			if !solve.Has(l, who, roleOf(role(n-1))) || solve.Has(l, "bob", roleOf(role(n-1))) {
				t.Error(kind, len(l), "Has")
			}
			if got := solve.All(l); len(got) != n+2 {
				t.Error(kind, len(l), len(got), "pairs")
			}
			if got := solve.All(l[1 : len(l)-1]); len(got) > n {
				t.Error(kind, len(l), len(got), "pairs of a list without its ends")
			}
		}
	}
}

// P6.1: many names that have one role, and many roles that include one.
func TestWideLists(t *testing.T) {
	const n = 1900
	var members, includes, people, want []string
	for i := range n {
		members = append(members, "d2.a <- "+word(i))
		includes = append(includes, "d1."+word(i)+" <- d2.a", "d3."+word(i)+" <- d1."+word(i))
		people = append(people, word(i))
		want = append(want, "d1."+word(i)+" ann", "d3."+word(i)+" ann")
	}
	slices.Sort(people)
	l := append(list(members...), written(n+1, "d1.b <- d2.a"))
	if got := solve.Members(l, roleOf("d1.b")); !slices.Equal(got, people) {
		t.Error("names", len(got))
	}
	if got := solve.All(l); !slices.Equal(got, pairs("d1.b "+strings.Join(people, " "), "d2.a "+strings.Join(people, " "))) {
		t.Error("pairs of many names", len(got))
	}
	l = append(list(includes...), written(2*n+1, "d2.a <- ann"))
	if got, want := solve.All(l), pairs(append(want, "d2.a ann")...); !slices.Equal(got, setOf(want).ordered()) {
		t.Error("pairs of many roles", len(got))
	}
	for i := 0; i < n; i += 300 {
		if !solve.Has(l, "ann", roleOf("d3."+word(i))) {
			t.Error(word(i))
		}
	}
}

// great returns as many credentials as there may be: 32000 names have a role, and 32000 roles include it.
func great() []api.Cred {
	var l []api.Cred
	for d := 1; d <= 8; d++ {
		for i := 1; i <= 3999; i++ {
			l = append(l, api.Cred{ID: api.ID{Domain: d, Seq: i}, Name: "a", Kind: 1, Who: "p" + strconv.Itoa(10000*d+i)})
		}
		l = append(l, api.Cred{ID: api.ID{Domain: d, Seq: 4000}, Name: "b", Kind: 2, A: api.Role{Owner: "d" + strconv.Itoa(d), Name: "a"}})
	}
	for d := 9; d <= 16; d++ {
		for i := 1; i <= 3992; i++ {
			l = append(l, api.Cred{ID: api.ID{Domain: d, Seq: i}, Name: word(i), Kind: 2, A: api.Role{Owner: "d" + strconv.Itoa(d), Name: "a"}})
		}
		for i := 1; i <= 8; i++ {
			l = append(l, api.Cred{ID: api.ID{Domain: d, Seq: 3992 + i}, Name: "a", Kind: 2, A: api.Role{Owner: "d" + strconv.Itoa(i), Name: "b"}})
		}
	}
	return l
}

// R1, P6.1: Has answers also of a list whose pairs all together are more than anybody could hold.
func TestGreatList(t *testing.T) {
	l := great()
	for _, x := range []struct {
		who, role string
		want      bool
	}{{"p10001", "d1.a", true}, {"p10001", "d2.a", false}, {"p10001", "d9.w1", true}, {"p83999", "d16.w3992", true}, {"p83999", "d16.w3993", false}, {"p10000", "d9.w1", false}, {"p84000", "d16.a", false}} {
		if got := solve.Has(l, x.who, roleOf(x.role)); got != x.want {
			t.Error(x.who, x.role, got)
		}
	}
}

// R1: no list and no argument makes a call panic or go on for ever, also where nothing in it is as it should be.
func TestExtremes(t *testing.T) {
	long := strings.Repeat("d1.a", 1<<16)
	var l []api.Cred
	for _, n := range []int{0, 1, -1, 2, 3, 4, 5, 16, 17, 4000, 4001, math.MaxInt, math.MinInt} {
		for _, s := range []string{"", "a", "d1", "d17", "\x00\xff", "é", long} {
			l = append(l,
				api.Cred{ID: api.ID{Domain: n, Seq: n}, Name: s, Kind: n, Who: s, A: api.Role{Owner: s, Name: s}, B: api.Role{Owner: s, Name: s}},
				api.Cred{ID: api.ID{Domain: n, Seq: 1}, Name: s, Kind: 1, Who: s},
				api.Cred{ID: api.ID{Domain: 1, Seq: n}, Name: "a", Kind: n, A: api.Role{Name: s}, B: api.Role{Name: s}},
				api.Cred{ID: api.ID{Domain: 2, Seq: n}, Name: "a", Kind: n, A: api.Role{Owner: "d1", Name: s}, B: api.Role{Owner: "d1", Name: s}},
			)
		}
	}
	want := implied(l)
	if got := solve.All(l); !slices.Equal(got, want) || len(got) == 0 {
		t.Error(len(got), len(want))
	}
	for _, s := range []string{"", "a", "d1", "d1.a", "\x00\xff", long} {
		for _, r := range []string{"", "a", "d1", long} {
			role := api.Role{Owner: r, Name: s}
			has := slices.Contains(want, solve.Pair{Role: role, Who: s})
			if solve.Has(l, s, role) != has || solve.Has(nil, s, role) || solve.Members(nil, role) != nil {
				t.Errorf("%.20q %.20q", s, r)
			}
			if got := solve.Members(l, role); slices.Contains(got, s) != has {
				t.Errorf("Members(%.20q.%.20q): %q", r, s, got)
			}
		}
	}
}

// R4: nil and empty lists are equivalent, arguments are not changed, also not behind their ends, and results are new memory.
func TestMemory(t *testing.T) {
	if solve.All(nil) != nil || len(solve.All([]api.Cred{})) != 0 || len(solve.Members([]api.Cred{}, roleOf("d1.a"))) != 0 || solve.Has([]api.Cred{}, "", api.Role{}) {
		t.Error("of no credentials")
	}
	many(func(r *rand.Rand, w world, l []api.Cred) {
		l = append(backwards(l), l...)
		room := append(append([]api.Cred(nil), l...), w.some(r, 5)...)
		before := append([]api.Cred(nil), room...)
		part := room[:len(l)]
		first := solve.All(part)
		want := append([]solve.Pair(nil), first...)
		role := api.Role{Owner: w.domains[0], Name: w.roles[0]}
		members := solve.Members(part, role)
		has := append([]string(nil), members...)
		solve.Has(part, w.people[0], role)
		if !slices.Equal(room, before) {
			t.Fatal("the list was changed:" + texts(l))
		}
		for i := range first {
			first[i] = solve.Pair{Who: "changed"}
		}
		for i := range members {
			members[i] = "changed"
		}
		if !slices.Equal(room, before) {
			t.Fatal("a result shares memory with the list:" + texts(l))
		}
		if got := solve.All(part); !slices.Equal(got, want) {
			t.Fatal("a result shares memory with an earlier one:" + texts(l))
		}
		if got := solve.Members(part, role); !slices.Equal(got, has) {
			t.Fatal("Members share memory with earlier ones:" + texts(l))
		}
	})
}

// R5: the same call answers the same each time, from whichever goroutine.
func TestAgain(t *testing.T) {
	l := large.some(source(1), 170)
	want, role := solve.All(l), roleOf("d1.f")
	members := solve.Members(l, role)
	if len(want) < 100 || len(members) < 2 {
		t.Fatal("few pairs:", told(want))
	}
	var group sync.WaitGroup
	for range 8 {
		group.Go(func() {
			for range 5 {
				if got := solve.All(l); !slices.Equal(got, want) {
					t.Error("All answers otherwise")
				}
				if got := solve.Members(l, role); !slices.Equal(got, members) {
					t.Error("Members answers otherwise")
				}
				if !solve.Has(l, members[0], role) || solve.Has(l, "nobody", role) {
					t.Error("Has answers otherwise")
				}
			}
		})
	}
	group.Wait()
}
