package proof_test

import (
	"fmt"
	"math"
	"math/rand/v2"
	"slices"
	"strconv"
	"strings"
	"sync"
	"testing"

	"livery/api"
	"livery/cred"
	"livery/names"
	"livery/proof"
	"livery/solve"
)

// written returns the credential with a text, whose Seq is handed in.
func written(seq int, text string) api.Cred {
	left, right, found := strings.Cut(text, " <- ")
	role := roleOf(left)
	c := api.Cred{ID: api.ID{Domain: names.Number(role.Owner), Seq: seq}, Name: role.Name}
	a, b, two := strings.Cut(right, " & ")
	parts := strings.Split(right, ".")
	switch {
	case two:
		c.Kind, c.A, c.B = 4, roleOf(a), roleOf(b)
	case len(parts) == 3:
		c.Kind, c.A.Name, c.B.Name = 3, parts[1], parts[2]
	case len(parts) == 2:
		c.Kind, c.A = 2, roleOf(right)
	default:
		c.Kind, c.Who = 1, right
	}
	if got, e := cred.Text(c); !found || e != 0 || got != text {
		panic("a test's credential has another text than " + text + ": " + got)
	}
	return c
}

// list returns the credentials with these texts. Their Seqs are their places, from 1 on.
func list(texts ...string) []api.Cred {
	var l []api.Cred
	for i, text := range texts {
		l = append(l, written(i+1, text))
	}
	return l
}

// roleOf returns the role that has a text.
func roleOf(text string) api.Role {
	owner, name, _ := strings.Cut(text, ".")
	return api.Role{Owner: owner, Name: name}
}

// by returns the proof of a pair, written as a role, a blank and a name, by the credential of the role's domain with a Seq.
func by(seq int, pair string, parts ...api.Proof) api.Proof {
	role, who, _ := strings.Cut(pair, " ")
	r := roleOf(role)
	return api.Proof{Role: r, Who: who, Cred: api.ID{Domain: names.Number(r.Owner), Seq: seq}, Parts: parts}
}

// told returns a proof as text. Different proofs have different texts.
func told(p api.Proof) string {
	var b strings.Builder
	tell(&b, p)
	return b.String()
}

// tell writes the text of a proof.
func tell(b *strings.Builder, p api.Proof) {
	fmt.Fprintf(b, "{%q.%q %q (%d, %d)", p.Role.Owner, p.Role.Name, p.Who, p.Cred.Domain, p.Cred.Seq)
	for _, part := range p.Parts {
		b.WriteString(" ")
		tell(b, part)
	}
	b.WriteString("}")
}

// texts returns credentials as text, also such as are not valid.
func texts(l []api.Cred) string {
	var b strings.Builder
	for _, c := range l {
		text, e := cred.Text(c)
		if e != 0 {
			text = fmt.Sprintf("not valid, %+v", c)
		}
		fmt.Fprintf(&b, "\n\t%d %d: %s", c.ID.Domain, c.ID.Seq, text)
	}
	return b.String()
}

// copied returns a proof that shares no memory with p.
func copied(p api.Proof) api.Proof {
	var parts []api.Proof
	for _, part := range p.Parts {
		parts = append(parts, copied(part))
	}
	p.Parts = parts
	return p
}

// places returns where p and its Parts lie, at all depths.
func places(p *api.Proof) []*api.Proof {
	all := []*api.Proof{p}
	for i := range p.Parts {
		all = append(all, places(&p.Parts[i])...)
	}
	return all
}

// levels returns how many proofs are around the innermost one of p.
func levels(p api.Proof) int {
	most := 0
	for _, part := range p.Parts {
		most = max(most, 1+levels(part))
	}
	return most
}

// correct reports whether p is correct for l, in the words of the chapter.
func correct(l []api.Cred, p api.Proof) bool {
	for i, c := range l {
		first := !slices.ContainsFunc(l[:i], func(b api.Cred) bool { return cred.May(b) && b.ID == c.ID })
		if !cred.May(c) || !first || c.ID != p.Cred {
			continue
		}
		if p.Role != (api.Role{Owner: "d" + strconv.Itoa(c.ID.Domain), Name: c.Name}) {
			return false
		}
		if c.Kind == 1 {
			return c.Who == p.Who && len(p.Parts) == 0
		}
		for _, part := range p.Parts {
			if !correct(l, part) {
				return false
			}
		}
		is := func(i int, owner, name, who string) bool {
			return p.Parts[i].Role.Owner == owner && p.Parts[i].Role.Name == name && p.Parts[i].Who == who
		}
		switch c.Kind {
		case 2:
			return len(p.Parts) == 1 && is(0, c.A.Owner, c.A.Name, p.Who)
		case 4:
			return len(p.Parts) == 2 && is(0, c.A.Owner, c.A.Name, p.Who) && is(1, c.B.Owner, c.B.Name, p.Who)
		}
		for n := 1; n <= 16 && len(p.Parts) == 2; n++ {
			y := "d" + strconv.Itoa(n)
			if is(0, p.Role.Owner, c.A.Name, y) && is(1, y, c.B.Name, p.Who) {
				return true
			}
		}
		return false
	}
	return false
}

// check demands that Check answers OK or ErrProof.
func check(t *testing.T, l []api.Cred, p api.Proof, ok bool) {
	t.Helper()
	want := api.ErrProof
	if ok {
		want = api.OK
	}
	if got := proof.Check(l, p); got != want {
		t.Errorf("Check of %s is %d, want %d, for%s", told(p), got, want, texts(l))
	}
	if correct(l, p) != ok {
		t.Errorf("the test's own words on %s, for%s", told(p), texts(l))
	}
}

// P7.1: the chapter's own examples.
func TestExamples(t *testing.T) {
	l := []api.Cred{
		{ID: api.ID{Domain: 1, Seq: 1}, Name: "a", Kind: api.Include, A: api.Role{Owner: "d2", Name: "b"}},
		{ID: api.ID{Domain: 2, Seq: 1}, Name: "b", Kind: api.Member, Who: "ann"},
	}
	b := api.Proof{Role: api.Role{Owner: "d2", Name: "b"}, Who: "ann", Cred: api.ID{Domain: 2, Seq: 1}}
	a := api.Proof{Role: api.Role{Owner: "d1", Name: "a"}, Who: "ann", Cred: api.ID{Domain: 1, Seq: 1}, Parts: []api.Proof{b}}
	check(t, l, a, true)
	if got := proof.Support(a); !slices.Equal(got, []api.ID{{Domain: 1, Seq: 1}, {Domain: 2, Seq: 1}}) {
		t.Error(got)
	}
	if got := proof.Size(a); got != 2 {
		t.Error(got)
	}
	a.Parts = nil
	check(t, l, a, false)
	check(t, l, b, true)
	b.Parts = []api.Proof{{Role: b.Role, Who: b.Who, Cred: b.Cred}}
	check(t, l, b, false) // a Member with a part
	b.Parts = nil
	if proof.Within(b, -1) {
		t.Error("Within -1")
	}
}

// the credentials of the proofs below: one of each kind, and what they ask for.
func each() []api.Cred {
	return list(
		"d1.m <- ann",          // 1
		"d1.i <- d2.b",         // 2
		"d2.b <- ann",          // 3
		"d1.l <- d1.f.s",       // 4
		"d1.f <- d3",           // 5
		"d3.s <- ann",          // 6
		"d1.b <- d4.x & d5.y",  // 7
		"d4.x <- ann",          // 8
		"d5.y <- ann",          // 9
		"d2.b <- bob",          // 10
		"d1.f <- d4",           // 11
		"d4.s <- ann",          // 12
		"d1.f <- eve",          // 13
		"d5.y <- bob",          // 14
		"d4.x <- bob",          // 15
		"d2.f <- d3",           // 16
		"d1.z <- d1.z",         // 17
		"d1.z <- ann",          // 18
		"d1.bb <- d4.x & d4.x", // 19
		"d1.ll <- d1.f.f",      // 20
		"d3.f <- ann",          // 21
		"d1.m <- ann",          // 22
	)
}

// ofEach returns a correct proof by a credential of each kind.
func ofEach() map[string]api.Proof {
	return map[string]api.Proof{
		"Member":  by(1, "d1.m ann"),
		"Include": by(2, "d1.i ann", by(3, "d2.b ann")),
		"Link":    by(4, "d1.l ann", by(5, "d1.f d3"), by(6, "d3.s ann")),
		"Both":    by(7, "d1.b ann", by(8, "d4.x ann"), by(9, "d5.y ann")),
	}
}

// P7.1: a proof by a credential of each kind is correct, and none is with one thing in it otherwise.
func TestEachKind(t *testing.T) {
	l := each()
	for kind, p := range ofEach() {
		t.Run(kind, func(t *testing.T) {
			check(t, l, p, true)
			for i := range places(&p) {
				for _, change := range []func(p *api.Proof){
					func(p *api.Proof) { p.Role.Owner = "d6" },
					func(p *api.Proof) { p.Role.Owner = "" },
					func(p *api.Proof) { p.Role.Owner = "d17" },
					func(p *api.Proof) { p.Role.Owner += "\x00" },
					func(p *api.Proof) { p.Role.Name = "other" },
					func(p *api.Proof) { p.Role.Name = "" },
					func(p *api.Proof) { p.Role.Name += " " },
					func(p *api.Proof) { p.Role = api.Role{} },
					func(p *api.Proof) { p.Who = "cid" },
					func(p *api.Proof) { p.Who = "bob" },
					func(p *api.Proof) { p.Who = "d4" },
					func(p *api.Proof) { p.Who = "" },
					func(p *api.Proof) { p.Who += " " },
					func(p *api.Proof) { p.Cred.Domain++ },
					func(p *api.Proof) { p.Cred.Domain = 0 },
					func(p *api.Proof) { p.Cred.Seq++ },
					func(p *api.Proof) { p.Cred.Seq-- },
					func(p *api.Proof) { p.Cred.Seq = 0 },
					func(p *api.Proof) { p.Cred.Seq = 4001 },
					func(p *api.Proof) { p.Cred = api.ID{} },
					func(p *api.Proof) { p.Cred.Domain, p.Cred.Seq = -p.Cred.Domain, -p.Cred.Seq },
					func(p *api.Proof) { p.Parts = append(p.Parts, api.Proof{}) },
					func(p *api.Proof) { p.Parts = append(p.Parts, *p) },
					func(p *api.Proof) { p.Parts = append(p.Parts, by(1, "d1.m ann")) },
					func(p *api.Proof) { p.Parts = append([]api.Proof{by(3, "d2.b ann")}, p.Parts...) },
				} {
					q := copied(p)
					change(places(&q)[i])
					check(t, l, q, false)
				}
			}
			check(t, l, copied(p), true)
			if len(p.Parts) == 0 {
				return
			}
			for _, parts := range [][]api.Proof{nil, {}, p.Parts[:len(p.Parts)-1], p.Parts[1:], {p}, {{}}, {{}, {}}, append(p.Parts, p.Parts[0]), append(p.Parts, p.Parts...)} {
				q := p
				q.Parts = parts
				check(t, l, q, false)
			}
			q := copied(p)
			slices.Reverse(q.Parts)
			check(t, l, q, len(p.Parts) == 1)
		})
	}
}

// P7.1: several proofs of one pair, and some that are nearly correct.
func TestNearly(t *testing.T) {
	l := each()
	for _, x := range []struct {
		what string
		p    api.Proof
		ok   bool
	}{
		{"a Member that is given twice, by either", by(22, "d1.m ann"), true},
		{"an Include, for another name", by(2, "d1.i bob", by(10, "d2.b bob")), true},
		{"an Include, its part for another name", by(2, "d1.i ann", by(10, "d2.b bob")), false},
		{"an Include, its part by the credential for another name", by(2, "d1.i ann", by(10, "d2.b ann")), false},
		{"an Include, its part of another role", by(2, "d1.i ann", by(9, "d5.y ann")), false},
		{"an Include with its part twice", by(2, "d1.i ann", by(3, "d2.b ann"), by(3, "d2.b ann")), false},
		{"an Include with a part of its own pair", by(2, "d1.i ann", by(2, "d1.i ann", by(3, "d2.b ann"))), false},
		{"an Include by the ID of its part", by(3, "d1.i ann", by(3, "d2.b ann")), false},

		{"a Link by another domain", by(4, "d1.l ann", by(11, "d1.f d4"), by(12, "d4.s ann")), true},
		{"a Link, its parts by different domains", by(4, "d1.l ann", by(5, "d1.f d3"), by(12, "d4.s ann")), false},
		{"a Link, its parts by different domains, turned round", by(4, "d1.l ann", by(11, "d1.f d4"), by(6, "d3.s ann")), false},
		{"a Link by a name that is no domain", by(4, "d1.l ann", by(13, "d1.f eve"), by(6, "d3.s ann")), false},
		{"a Link by a name that is no domain, in both parts", by(4, "d1.l ann", by(13, "d1.f eve"), api.Proof{Role: roleOf("eve.s"), Who: "ann", Cred: api.ID{Domain: 3, Seq: 6}}), false},
		{"a Link, its first role another domain's", by(4, "d1.l ann", by(16, "d2.f d3"), by(6, "d3.s ann")), false},
		{"a Link, its second role another one", by(4, "d1.l ann", by(5, "d1.f d3"), by(21, "d3.f ann")), false},
		{"a Link whose roles have the same Name", by(20, "d1.ll ann", by(5, "d1.f d3"), by(21, "d3.f ann")), true},
		{"a Link, its parts the other way round", by(20, "d1.ll ann", by(21, "d3.f ann"), by(5, "d1.f d3")), false},
		{"a Link with its first part twice", by(20, "d1.ll d3", by(5, "d1.f d3"), by(5, "d1.f d3")), false},
		{"a Link with its first part alone", by(4, "d1.l ann", by(5, "d1.f d3")), false},
		{"a Link with its second part alone", by(4, "d1.l ann", by(6, "d3.s ann")), false},
		{"a Link with a third part", by(4, "d1.l ann", by(5, "d1.f d3"), by(6, "d3.s ann"), by(6, "d3.s ann")), false},
		{"a Link, its second part for another name", by(4, "d1.l bob", by(5, "d1.f d3"), by(6, "d3.s ann")), false},

		{"a Both for another name", by(7, "d1.b bob", by(15, "d4.x bob"), by(14, "d5.y bob")), true},
		{"a Both, its first part for another name", by(7, "d1.b ann", by(15, "d4.x bob"), by(9, "d5.y ann")), false},
		{"a Both, its second part for another name", by(7, "d1.b ann", by(8, "d4.x ann"), by(14, "d5.y bob")), false},
		{"a Both, both parts for another name", by(7, "d1.b ann", by(15, "d4.x bob"), by(14, "d5.y bob")), false},
		{"a Both, its parts the other way round", by(7, "d1.b ann", by(9, "d5.y ann"), by(8, "d4.x ann")), false},
		{"a Both with its first part twice", by(7, "d1.b ann", by(8, "d4.x ann"), by(8, "d4.x ann")), false},
		{"a Both with its second part twice", by(7, "d1.b ann", by(9, "d5.y ann"), by(9, "d5.y ann")), false},
		{"a Both with its first part alone", by(7, "d1.b ann", by(8, "d4.x ann")), false},
		{"a Both with its second part alone", by(7, "d1.b ann", by(9, "d5.y ann")), false},
		{"a Both of one role, with one part", by(19, "d1.bb ann", by(8, "d4.x ann")), false},
		{"a Both of one role, with two parts", by(19, "d1.bb ann", by(8, "d4.x ann"), by(8, "d4.x ann")), true},

		{"an Include of its own role", by(17, "d1.z ann", by(18, "d1.z ann")), true},
		{"an Include of its own role, and no end", by(17, "d1.z ann"), false},
		{"a Member, for a name that another Member of the role gives", by(3, "d2.b bob"), false},
		{"a Member with itself as a part", by(1, "d1.m ann", by(1, "d1.m ann")), false},
		{"no proof", api.Proof{}, false},
		{"a proof by no credential", by(0, "d1.m ann"), false},
		{"a proof by a credential that there is not", by(23, "d1.m ann"), false},
		{"a proof by a credential of another domain", by(1, "d2.m ann"), false},
	} {
		t.Run(x.what, func(t *testing.T) { check(t, l, x.p, x.ok) })
	}
}

// P7.1: nothing is correct for no credentials.
func TestNoCredentials(t *testing.T) {
	for _, p := range ofEach() {
		check(t, nil, p, false)
		check(t, []api.Cred{}, p, false)
	}
	check(t, nil, api.Proof{}, false)
	check(t, []api.Cred{{}}, api.Proof{}, false)
}

// P7.1: a proof is by effective credentials alone: by none that is not valid, and by the first valid one of an ID.
func TestEffective(t *testing.T) {
	ann, bob := by(1, "d1.a ann"), by(1, "d1.a bob")
	a, b := written(1, "d1.a <- ann"), written(1, "d1.a <- bob")
	check(t, []api.Cred{a, b}, ann, true)
	check(t, []api.Cred{a, b}, bob, false)
	check(t, []api.Cred{b, a}, ann, false)
	check(t, []api.Cred{b, a}, bob, true)
	check(t, []api.Cred{a, written(2, "d1.a <- bob")}, bob, false)
	check(t, []api.Cred{a, written(2, "d1.a <- bob")}, by(2, "d1.a bob"), true)
	check(t, []api.Cred{a, written(1, "d1.b <- ann")}, by(1, "d1.b ann"), false)
	check(t, []api.Cred{a, written(1, "d1.a <- d1.a")}, by(1, "d1.a ann", ann), false)
	check(t, []api.Cred{written(1, "d1.a <- d1.a"), a}, by(1, "d1.a ann", ann), false)
	check(t, []api.Cred{a, written(1, "d2.a <- bob")}, by(1, "d2.a bob"), true)
	check(t, []api.Cred{a, written(1, "d2.a <- bob")}, ann, true)
	part := by(2, "d1.b ann")
	for _, c := range []api.Cred{
		{},
		{ID: a.ID, Name: "a", Kind: 1, Who: "ann", A: roleOf("d1.b")},
		{ID: a.ID, Name: "a", Kind: 1, Who: "ann", B: roleOf(".b")},
		{ID: a.ID, Name: "a", Kind: 0, Who: "ann"},
		{ID: a.ID, Name: "a", Kind: 5, Who: "ann"},
		{ID: a.ID, Name: "a", Kind: -1, Who: "ann"},
		{ID: a.ID, Name: "a", Kind: 1, Who: "ann "},
		{ID: a.ID, Name: "a", Kind: 1},
		{ID: a.ID, Name: "A", Kind: 1, Who: "ann"},
		{ID: a.ID, Name: "", Kind: 1, Who: "ann"},
		{ID: api.ID{Domain: 1}, Name: "a", Kind: 1, Who: "ann"},
		{ID: api.ID{Domain: 1, Seq: 4001}, Name: "a", Kind: 1, Who: "ann"},
		{ID: api.ID{Domain: 17, Seq: 1}, Name: "a", Kind: 1, Who: "ann"},
		{ID: api.ID{Seq: 1}, Name: "a", Kind: 1, Who: "ann"},
		{ID: a.ID, Name: "a", Kind: 2, Who: "ann", A: roleOf("d1.b")},
		{ID: a.ID, Name: "a", Kind: 2, A: roleOf("d1.b"), B: roleOf("d1.b")},
		{ID: a.ID, Name: "a", Kind: 2, A: roleOf("d17.b")},
		{ID: a.ID, Name: "a", Kind: 3, A: roleOf("d1.f"), B: roleOf(".b")},
		{ID: a.ID, Name: "a", Kind: 3, A: roleOf(".f"), B: roleOf("d1.b")},
		{ID: a.ID, Name: "a", Kind: 3, A: roleOf(".f"), B: roleOf(".b"), Who: "ann"},
		{ID: a.ID, Name: "a", Kind: 4, A: roleOf("d1.b"), B: roleOf("d1.b"), Who: "ann"},
		{ID: a.ID, Name: "a", Kind: 4, A: roleOf("d1.b")},
		{ID: a.ID, Name: "a", Kind: 4, B: roleOf("d1.b")},
	} {
		l := []api.Cred{c, written(2, "d1.b <- ann"), written(3, "d1.f <- d1")}
		for _, parts := range [][]api.Proof{nil, {part}, {part, part}, {by(3, "d1.f d1"), part}} {
			for _, who := range []string{"ann", c.Who} {
				check(t, l, api.Proof{Role: cred.Role(c), Who: who, Cred: c.ID, Parts: parts}, false)
				check(t, l, api.Proof{Role: roleOf("d1.a"), Who: who, Cred: c.ID, Parts: parts}, false)
			}
		}
		check(t, append(l, a), ann, true) // the valid one behind it counts
		check(t, append([]api.Cred{a}, l...), ann, true)
		check(t, append(l, b, a), ann, false)
		check(t, append(l, b, a), bob, true)
	}
}

// mixed returns credentials of all kinds, and a correct proof by all of them but the last.
func mixed() ([]api.Cred, api.Proof) {
	l := list(
		"d1.top <- d2.b & d1.l", // 1
		"d2.b <- d3.c",          // 2
		"d3.c <- d3.f.s",        // 3
		"d3.f <- d4.x & d4.y",   // 4
		"d4.x <- d5",            // 5
		"d4.y <- d4.x",          // 6
		"d5.s <- ann",           // 7
		"d1.l <- d1.g.s",        // 8
		"d1.g <- d3.f",          // 9
		"d1.top <- bob",         // 10
	)
	x := by(5, "d4.x d5")
	f := by(4, "d3.f d5", x, by(6, "d4.y d5", x))
	s := by(7, "d5.s ann")
	return l, by(1, "d1.top ann",
		by(2, "d2.b ann", by(3, "d3.c ann", f, s)),
		by(8, "d1.l ann", by(9, "d1.g d5", f), s))
}

// P7.1: several levels of all kinds; nothing is correct with one thing at any depth otherwise.
func TestMixed(t *testing.T) {
	l, p := mixed()
	check(t, l, p, true)
	if got := proof.Size(p); got != 15 {
		t.Error("Size", got)
	}
	all := len(places(&p))
	for i := range all {
		for j := range all {
			for what, change := range map[string]func(p *api.Proof, q api.Proof) bool{
				"role":      func(p *api.Proof, q api.Proof) bool { same := p.Role == q.Role; p.Role = q.Role; return same },
				"who":       func(p *api.Proof, q api.Proof) bool { same := p.Who == q.Who; p.Who = q.Who; return same },
				"ID":        func(p *api.Proof, q api.Proof) bool { same := p.Cred == q.Cred; p.Cred = q.Cred; return same },
				"parts":     func(p *api.Proof, q api.Proof) bool { p.Parts = q.Parts; return false },
				"whole":     func(p *api.Proof, q api.Proof) bool { same := told(*p) == told(q); *p = q; return same },
				"one more":  func(p *api.Proof, q api.Proof) bool { p.Parts = append(p.Parts, q); return false },
				"one ahead": func(p *api.Proof, q api.Proof) bool { p.Parts = append([]api.Proof{q}, p.Parts...); return false },
			} {
				q, other := copied(p), copied(p)
				same := change(places(&q)[i], copied(*places(&other)[j]))
				want := same || told(q) == told(p) || i == 0 && what == "whole" // a part is correct by itself
				if got := proof.Check(l, q) == api.OK; got != want || correct(l, q) != want {
					t.Errorf("with another %s, %d of %d: %v, want %v", what, i, j, got, want)
				}
			}
		}
	}
}

// P7.1: a proof among whose parts one of the same pair stands again is correct if it is finite, and its parts are.
func TestAgainAmongItsParts(t *testing.T) {
	l := list("d1.a <- d2.b", "d2.b <- d1.a", "d1.a <- ann", "d1.a <- d1.a & d1.a", "d1.a <- d1.f.a", "d1.f <- d1")
	p := by(3, "d1.a ann")
	for range 4 {
		p = by(1, "d1.a ann", by(2, "d2.b ann", p))
		check(t, l, p, true)
		p = by(4, "d1.a ann", p, p)
		check(t, l, p, true)
		p = by(5, "d1.a ann", by(6, "d1.f d1"), p)
		check(t, l, p, true)
	}
	if got := proof.Support(p); !slices.Equal(got, []api.ID{{Domain: 1, Seq: 1}, {Domain: 1, Seq: 3}, {Domain: 1, Seq: 4}, {Domain: 1, Seq: 5}, {Domain: 1, Seq: 6}, {Domain: 2, Seq: 2}}) {
		t.Error(got)
	}
	for i := range places(&p) {
		q := copied(p)
		places(&q)[i].Who = "bob"
		check(t, l, q, false)
	}
	without := []api.Cred{l[0], l[1], l[3], l[4], l[5]} // nobody to begin with
	check(t, without, p, false)
	for range 5 {
		p = by(1, "d1.a ann", by(2, "d2.b ann", p))
		check(t, without, p, false)
	}
}

// P7.1: the support has each ID once, in the order of IDs, of any proof.
func TestSupport(t *testing.T) {
	id := func(d, s int, parts ...api.Proof) api.Proof {
		return api.Proof{Cred: api.ID{Domain: d, Seq: s}, Parts: parts}
	}
	for _, x := range []struct {
		p    api.Proof
		want []api.ID
	}{
		{api.Proof{}, []api.ID{{}}},
		{id(2, 1), []api.ID{{Domain: 2, Seq: 1}}},
		{id(2, 1, id(2, 1)), []api.ID{{Domain: 2, Seq: 1}}},
		{id(2, 1, id(2, 1), id(2, 1, id(2, 1))), []api.ID{{Domain: 2, Seq: 1}}},
		{id(2, 1, id(1, 2)), []api.ID{{Domain: 1, Seq: 2}, {Domain: 2, Seq: 1}}},
		{id(1, 2, id(2, 1)), []api.ID{{Domain: 1, Seq: 2}, {Domain: 2, Seq: 1}}},
		{id(1, 10, id(1, 9), id(1, 2)), []api.ID{{Domain: 1, Seq: 2}, {Domain: 1, Seq: 9}, {Domain: 1, Seq: 10}}},
		{id(10, 1, id(9, 4000), id(2, 7)), []api.ID{{Domain: 2, Seq: 7}, {Domain: 9, Seq: 4000}, {Domain: 10, Seq: 1}}},
		{id(3, 3, id(1, 1, id(3, 3, id(2, 2), id(1, 1))), id(2, 2, id(1, 5), id(1, 1)), id(1, 5)), []api.ID{{Domain: 1, Seq: 1}, {Domain: 1, Seq: 5}, {Domain: 2, Seq: 2}, {Domain: 3, Seq: 3}}},
		{id(0, 0, id(-1, 5), id(17, math.MinInt), id(math.MaxInt, 0), id(-1, math.MaxInt), id(math.MinInt, 3), id(17, 4001), id(0, -1)),
			[]api.ID{{Domain: math.MinInt, Seq: 3}, {Domain: -1, Seq: 5}, {Domain: -1, Seq: math.MaxInt}, {Seq: -1}, {}, {Domain: 17, Seq: math.MinInt}, {Domain: 17, Seq: 4001}, {Domain: math.MaxInt}}},
	} {
		if got := proof.Support(x.p); !slices.Equal(got, x.want) {
			t.Errorf("Support of %s is %v, want %v", told(x.p), got, x.want)
		}
	}
	l, p := mixed()
	var want []api.ID
	for _, c := range cred.Sorted(l) {
		if c.ID.Seq != 10 {
			want = append(want, c.ID)
		}
	}
	if got := proof.Support(p); !slices.Equal(got, want) {
		t.Error(got, want)
	}
}

// P7.1: the size is 1 and those of the Parts, of any proof, however often one occurs in it.
func TestSize(t *testing.T) {
	var one api.Proof
	for _, x := range []struct {
		p    api.Proof
		want int
	}{
		{one, 1},
		{api.Proof{Parts: []api.Proof{}}, 1},
		{api.Proof{Parts: []api.Proof{one}}, 2},
		{api.Proof{Parts: []api.Proof{one, one}}, 3},
		{api.Proof{Parts: make([]api.Proof, 100000)}, 100001},
		{api.Proof{Parts: make([]api.Proof, 5, 9)}, 6},
		{by(1, "d1.a ann", by(1, "d1.a ann"), by(2, "d1.b ann", by(1, "d1.a ann"), by(1, "d1.a ann")), by(3, "d1.c ann", by(4, "d1.d ann", by(5, "d1.e ann")))), 8},
	} {
		if got := proof.Size(x.p); got != x.want {
			t.Error(got, x.want)
		}
	}
	p := one
	for n := range 16 {
		if got := proof.Size(p); got != 1<<(n+1)-1 {
			t.Error(n, got)
		}
		p = api.Proof{Parts: []api.Proof{p, p}}
	}
}

// P7.1: Same tells proofs apart by each thing in them, at any depth, and nil Parts not from none.
func TestSame(t *testing.T) {
	_, p := mixed()
	same := func(a, b api.Proof, want bool) {
		t.Helper()
		if proof.Same(a, b) != want || proof.Same(b, a) != want {
			t.Errorf("Same of %s and %s: want %v", told(a), told(b), want)
		}
	}
	same(p, p, true)
	same(api.Proof{}, api.Proof{}, true)
	same(api.Proof{}, p, false)
	for i := range places(&p) {
		for _, change := range []func(p *api.Proof){
			func(p *api.Proof) { p.Role.Owner += "x" },
			func(p *api.Proof) { p.Role.Owner = "" },
			func(p *api.Proof) { p.Role.Name += "x" },
			func(p *api.Proof) { p.Role.Name = "" },
			func(p *api.Proof) { p.Role = api.Role{Owner: p.Role.Owner + "." + p.Role.Name} },
			func(p *api.Proof) { p.Who += "x" },
			func(p *api.Proof) { p.Who = "" },
			func(p *api.Proof) { p.Who = strings.ToUpper(p.Who) },
			func(p *api.Proof) { p.Cred.Domain++ },
			func(p *api.Proof) { p.Cred.Seq++ },
			func(p *api.Proof) { p.Cred.Domain, p.Cred.Seq = p.Cred.Seq+7, p.Cred.Domain },
			func(p *api.Proof) { p.Parts = append(p.Parts, api.Proof{}) },
			func(p *api.Proof) { p.Parts = append(p.Parts, copied(*p)) },
			func(p *api.Proof) { p.Parts = append([]api.Proof{{}}, p.Parts...) },
		} {
			q := copied(p)
			same(p, q, true)
			change(places(&q)[i])
			same(p, q, false)
			same(q, copied(q), true)
		}
		q := copied(p)
		if x := places(&q)[i]; len(x.Parts) > 0 {
			last := len(x.Parts) - 1
			x.Parts = x.Parts[:last]
			same(p, q, false)
			x.Parts = x.Parts[:last+1]
			x.Parts = x.Parts[1:]
			same(p, q, false)
			x.Parts = nil
			same(p, q, false)
		} else {
			x.Parts = []api.Proof{}
			same(p, q, true)
			x.Parts = make([]api.Proof, 0, 3)
			same(p, q, true)
		}
		q = copied(p)
		if x := places(&q)[i]; len(x.Parts) == 2 {
			slices.Reverse(x.Parts)
			same(p, q, false)
		}
	}
	same(by(1, "d1.a ann", by(1, "d1.a ann"), by(1, "d1.a ann")), by(1, "d1.a ann", by(1, "d1.a ann", by(1, "d1.a ann"))), false)
	same(api.Proof{Who: "a", Role: api.Role{Owner: "b"}}, api.Proof{Who: "b", Role: api.Role{Owner: "a"}}, false)
}

// P7.1: Within is for proofs none of which is in more than so many others, wherever in Parts of unlike depths the deepest one is.
func TestWithin(t *testing.T) {
	deep := func(n int) api.Proof {
		p := api.Proof{}
		for range n {
			p = api.Proof{Parts: []api.Proof{p}}
		}
		return p
	}
	within := func(p api.Proof, depth int) {
		t.Helper()
		for _, n := range []int{math.MinInt, math.MinInt + 1, -1000, -2, -1} {
			if proof.Within(p, n) {
				t.Error("depth", depth, "within", n)
			}
		}
		for n := range depth + 4 {
			if proof.Within(p, n) != (depth <= n) {
				t.Error("depth", depth, "within", n)
			}
		}
		for _, n := range []int{depth + 1000, math.MaxInt - 1, math.MaxInt} {
			if !proof.Within(p, n) {
				t.Error("depth", depth, "within", n)
			}
		}
	}
	within(api.Proof{}, 0)
	within(api.Proof{Parts: []api.Proof{}}, 0)
	within(api.Proof{Parts: make([]api.Proof, 5)}, 1)
	_, p := mixed()
	within(p, 5)
	for n := range 6 {
		within(deep(n), n)
		for m := range 6 {
			within(api.Proof{Parts: []api.Proof{deep(n), deep(m)}}, 1+max(n, m))
			for k := range 6 {
				within(api.Proof{Parts: []api.Proof{deep(n), {Parts: []api.Proof{deep(m)}}, deep(k)}}, 1+max(n, 1+m, k))
			}
		}
	}
}

// source makes things that are always the same ones.
func source(seed uint64) *rand.Rand {
	return rand.New(rand.NewPCG(seed, 7))
}

// world is what the credentials of a list are made of.
type world struct {
	domains, roles, people []string
}

var (
	small = world{[]string{"d1", "d2"}, []string{"a", "b"}, []string{"x", "d1", "d2"}}
	wide  = world{[]string{"d1", "d2", "d10", "d16"}, []string{"a", "ab", "b", "c", "d1"}, []string{"an", "ann", "bob", "d1", "d2", "d10", "d16", "d17", "d3"}}
)

// of returns one of a list.
func of(r *rand.Rand, l []string) string {
	return l[r.IntN(len(l))]
}

// some returns n credentials, with different IDs, in no order.
func (w world) some(r *rand.Rand, n int) []api.Cred {
	role := func() string { return of(r, w.domains) + "." + of(r, w.roles) }
	var l []api.Cred
	for _, seq := range r.Perm(n) {
		d := of(r, w.domains)
		text := d + "." + of(r, w.roles) + " <- "
		switch r.IntN(6) {
		case 0:
			text += of(r, w.people)
		case 1:
			text += of(r, w.domains)
		case 2:
			text += role()
		case 3, 4:
			text += d + "." + of(r, w.roles) + "." + of(r, w.roles)
		case 5:
			text += role() + " & " + role()
		}
		l = append(l, written(seq+1, text))
	}
	return l
}

// way is how a pair follows: by a credential, from other pairs.
type way struct {
	id    api.ID
	pairs []solve.Pair
}

// prover makes proofs of the pairs that a list implies.
type prover struct {
	r     *rand.Rand
	creds []api.Cred           // effective ones
	round map[solve.Pair]int   // in which round of trying all rules a pair is found first
	found []solve.Pair         // in the order in which they are found
	ways  map[solve.Pair][]way // all there are
}

// proverOf returns the prover of a list.
func proverOf(r *rand.Rand, l []api.Cred) *prover {
	m := &prover{r: r, creds: cred.Counts(l), round: map[solve.Pair]int{}, ways: map[solve.Pair][]way{}}
	all := solve.All(l)
	for _, p := range all {
		m.ways[p] = m.waysOf(p, all)
	}
	for n := 1; len(m.found) < len(all); n++ {
		var more []solve.Pair
		for _, p := range all {
			if m.round[p] == 0 && slices.ContainsFunc(m.ways[p], func(w way) bool { return m.ahead(w, n) }) {
				more = append(more, p)
			}
		}
		for _, p := range more {
			m.round[p] = n
		}
		m.found = append(m.found, more...)
		if len(more) == 0 {
			panic("a pair follows from nothing")
		}
	}
	return m
}

// ahead reports whether the pairs that a way needs are found ahead of a round.
func (m *prover) ahead(w way, round int) bool {
	return !slices.ContainsFunc(w.pairs, func(p solve.Pair) bool { return m.round[p] == 0 || m.round[p] >= round })
}

// waysOf returns all ways in which p follows from the pairs that are there.
func (m *prover) waysOf(p solve.Pair, all []solve.Pair) []way {
	var ways []way
	for _, c := range m.creds {
		if cred.Role(c) != p.Role {
			continue
		}
		var tries [][]solve.Pair
		switch c.Kind {
		case 1:
			if c.Who == p.Who {
				tries = append(tries, nil)
			}
		case 2:
			tries = append(tries, []solve.Pair{{Role: c.A, Who: p.Who}})
		case 3:
			for n := 1; n <= 16; n++ {
				y := names.Domain(n)
				tries = append(tries, []solve.Pair{{Role: api.Role{Owner: p.Role.Owner, Name: c.A.Name}, Who: y}, {Role: api.Role{Owner: y, Name: c.B.Name}, Who: p.Who}})
			}
		case 4:
			tries = append(tries, []solve.Pair{{Role: c.A, Who: p.Who}, {Role: c.B, Who: p.Who}})
		}
		for _, pairs := range tries {
			if !slices.ContainsFunc(pairs, func(q solve.Pair) bool { return !slices.Contains(all, q) }) {
				ways = append(ways, way{c.ID, pairs})
			}
		}
	}
	return ways
}

// prove returns a proof of a pair, which takes any way for so many levels, and one that leads to the end from there on.
func (m *prover) prove(p solve.Pair, free int) api.Proof {
	var ways []way
	for _, w := range m.ways[p] {
		if free > 0 || m.ahead(w, m.round[p]) {
			ways = append(ways, w)
		}
	}
	w := ways[m.r.IntN(len(ways))]
	a := api.Proof{Role: p.Role, Who: p.Who, Cred: w.id}
	for _, q := range w.pairs {
		a.Parts = append(a.Parts, m.prove(q, free-1))
	}
	return a
}

// many calls try with many lists and proofs that are correct for them.
func many(try func(r *rand.Rand, w world, l []api.Cred, p api.Proof)) {
	for seed := range uint64(400) {
		r := source(seed)
		for i, l := range [][]api.Cred{small.some(r, r.IntN(10)), wide.some(r, 10+r.IntN(40))} {
			m := proverOf(r, l)
			for range min(3, len(m.found)) {
				try(r, []world{small, wide}[i], l, m.prove(m.found[r.IntN(len(m.found))], r.IntN(5)))
			}
		}
	}
}

// change changes one thing in a proof, at any depth, which may leave it correct.
func change(r *rand.Rand, w world, l []api.Cred, p *api.Proof) {
	all := places(p)
	x, y := all[r.IntN(len(all))], copied(*all[r.IntN(len(all))])
	switch r.IntN(11) {
	case 0:
		x.Role.Owner = of(r, w.domains)
	case 1:
		x.Role.Name = of(r, w.roles)
	case 2:
		x.Who = of(r, w.people)
	case 3:
		x.Cred = l[r.IntN(len(l))].ID
	case 4:
		x.Cred.Seq += r.IntN(5) - 2
	case 5:
		*x = y
	case 6:
		x.Parts = append(x.Parts, y)
	case 7:
		if len(x.Parts) > 0 {
			x.Parts = x.Parts[1:]
		}
	case 8:
		slices.Reverse(x.Parts)
	case 9:
		x.Role, x.Who = y.Role, y.Who
	case 10:
		x.Cred, x.Parts = y.Cred, y.Parts
	}
}

// P7.1: Check holds of many proofs, with nothing and with something in them otherwise, what the chapter's words say.
func TestManyProofs(t *testing.T) {
	right, wrong, great := 0, 0, 0
	many(func(r *rand.Rand, w world, l []api.Cred, p api.Proof) {
		check(t, l, p, true)
		great = max(great, proof.Size(p))
		for range 20 {
			q := copied(p)
			for range 1 + r.IntN(2) {
				change(r, w, l, &q)
			}
			ok := correct(l, q)
			check(t, l, q, ok)
			if told(q) == told(p) {
				continue
			} else if ok {
				right++
			} else {
				wrong++
			}
		}
		if t.Failed() {
			t.FailNow()
		}
	})
	if right < 200 || wrong < 10000 || great < 50 {
		t.Error("few proofs:", right, wrong, great)
	}
}

// P7.1: what Support, Size, Same and Within say of many proofs, correct or not.
func TestManyReports(t *testing.T) {
	many(func(r *rand.Rand, w world, l []api.Cred, p api.Proof) {
		for range 5 {
			q := copied(p)
			change(r, w, l, &q)
			if got := proof.Same(p, q); got != (told(p) == told(q)) {
				t.Fatalf("Same of %s and %s: %v", told(p), told(q), got)
			}
			p = q
			all := places(&p)
			if got := proof.Size(p); got != len(all) {
				t.Fatalf("Size of %s: %d", told(p), got)
			}
			var ids []api.ID
			for _, x := range all {
				ids = append(ids, x.Cred)
			}
			slices.SortFunc(ids, func(a, b api.ID) int {
				if a.Domain != b.Domain {
					return a.Domain - b.Domain
				}
				return a.Seq - b.Seq
			})
			if got := proof.Support(p); !slices.Equal(got, slices.Compact(ids)) {
				t.Fatalf("Support of %s: %v", told(p), got)
			}
			for n := range 12 {
				if got := proof.Within(p, n); got != (levels(p) <= n) {
					t.Fatalf("Within of %s, %d: %v", told(p), n, got)
				}
			}
		}
	})
}

// P7.2: credentials imply the pair of each proof that is correct for them, however it came about.
func TestSound(t *testing.T) {
	sound := func(l []api.Cred, p api.Proof) bool {
		ok := proof.Check(l, p) == api.OK
		if ok && !solve.Has(l, p.Who, p.Role) {
			t.Fatalf("%s is correct, but not implied, for%s", told(p), texts(l))
		}
		return ok
	}
	found := 0
	many(func(r *rand.Rand, w world, l []api.Cred, p api.Proof) {
		sound(l, p)
		part := slices.DeleteFunc(slices.Clone(l), func(api.Cred) bool { return r.IntN(6) == 0 })
		sound(part, p)
		for range 10 {
			q := copied(p)
			change(r, w, l, &q)
			if sound(l, q) && told(p) != told(q) {
				found++
			}
		}
	})
	if found < 100 {
		t.Error("few proofs:", found)
	}
}

// P7.1, P7.2: of all proofs of two levels by a few credentials, the correct ones are those of the words, and have implied pairs.
func TestAllSmallProofs(t *testing.T) {
	for seed := range uint64(60) {
		r := source(seed)
		l := small.some(r, 2+r.IntN(4))
		var leaves, nodes []api.Proof
		for _, c := range l {
			for _, who := range small.people {
				leaves = append(leaves, api.Proof{Role: cred.Role(c), Who: who, Cred: c.ID})
			}
		}
		nodes = append(nodes, leaves...)
		for _, x := range leaves {
			for _, a := range leaves {
				x.Parts = []api.Proof{a}
				nodes = append(nodes, x)
				for _, b := range leaves {
					x.Parts = []api.Proof{a, b}
					nodes = append(nodes, x)
				}
			}
		}
		for _, p := range nodes {
			ok := proof.Check(l, p) == api.OK
			if ok != correct(l, p) || ok && !solve.Has(l, p.Who, p.Role) {
				t.Fatalf("%s: %v, for%s", told(p), ok, texts(l))
			}
		}
	}
}

// P7.3: a correct proof is correct for the credentials of its support alone, and for none of them fewer.
func TestSupportAlone(t *testing.T) {
	many(func(r *rand.Rand, w world, l []api.Cred, p api.Proof) {
		ids := proof.Support(p)
		alone := slices.DeleteFunc(slices.Clone(l), func(c api.Cred) bool { return !slices.Contains(ids, c.ID) })
		if len(alone) != len(ids) || proof.Check(alone, p) != api.OK {
			t.Fatalf("%s is not correct for its support %v alone, of%s", told(p), ids, texts(l))
		}
		for i := range alone {
			if proof.Check(slices.Delete(slices.Clone(alone), i, i+1), p) != api.ErrProof {
				t.Fatalf("%s is correct without %v, of%s", told(p), alone[i].ID, texts(l))
			}
			less := slices.DeleteFunc(slices.Clone(l), func(c api.Cred) bool { return c.ID == alone[i].ID })
			if proof.Check(less, p) != api.ErrProof {
				t.Fatalf("%s is correct without %v, of%s", told(p), alone[i].ID, texts(l))
			}
		}
	})
}

// P7.3: a correct proof stays correct with credentials of other IDs ahead, between and behind, effective or not.
func TestMoreCredentials(t *testing.T) {
	many(func(r *rand.Rand, w world, l []api.Cred, p api.Proof) {
		ids := proof.Support(p)
		alone := slices.DeleteFunc(slices.Clone(l), func(c api.Cred) bool { return !slices.Contains(ids, c.ID) })
		for _, l := range [][]api.Cred{l, alone} {
			more := w.some(r, 1+r.IntN(20))
			for i := range more {
				more[i].ID.Seq += 100
				switch r.IntN(8) {
				case 0:
					more[i].Kind = 5
				case 1:
					more[i].ID.Seq += 4000
				case 2:
					more[i].ID.Domain = 17
				case 3:
					more[i].ID = more[0].ID
				}
			}
			between := slices.Clone(more)
			for _, c := range l {
				between = slices.Insert(between, r.IntN(len(between)+1), c)
			}
			for _, all := range [][]api.Cred{slices.Concat(more, l), slices.Concat(l, more), between} {
				if proof.Check(all, p) != api.OK {
					t.Fatalf("%s is not correct with more credentials,%s", told(p), texts(all))
				}
			}
		}
	})
}

// P7.4: each of the Parts of a correct proof is correct, at all depths.
func TestPartsAreCorrect(t *testing.T) {
	parts := func(l []api.Cred, p api.Proof) int {
		for _, x := range places(&p) {
			if proof.Check(l, *x) != api.OK {
				t.Fatalf("%s is correct, but not its part %s, for%s", told(p), told(*x), texts(l))
			}
		}
		return len(places(&p)) - 1
	}
	tried := 0
	many(func(r *rand.Rand, w world, l []api.Cred, p api.Proof) {
		tried += parts(l, p)
		for range 20 {
			q := copied(p)
			change(r, w, l, &q)
			if proof.Check(l, q) == api.OK {
				tried += parts(l, q)
			}
		}
	})
	if tried < 10000 {
		t.Error("few parts:", tried)
	}
}

// towers returns proofs of n levels by Includes, Links and Boths, whose names are their kinds, and the credentials for which they are correct.
func towers(n int) ([]api.Cred, map[string]api.Proof) {
	l := list("d1.a <- ann", "d1.a <- d1.a", "d1.a <- d1.f.a", "d1.f <- d1", "d1.a <- d1.a & d1.a", "d1.f <- d1.f.f")
	ann, first := by(1, "d1.a ann"), by(4, "d1.f d1")
	all := map[string]api.Proof{"Include": ann, "Link": ann, "Link first": first, "Both first": ann, "Both second": ann}
	for range n - 1 {
		all["Include"] = by(2, "d1.a ann", all["Include"])
		all["Link"] = by(3, "d1.a ann", first, all["Link"])
		all["Link first"] = by(6, "d1.f d1", all["Link first"], first)
		all["Both first"] = by(5, "d1.a ann", all["Both first"], ann)
		all["Both second"] = by(5, "d1.a ann", ann, all["Both second"])
	}
	return l, all
}

// deepest returns where the innermost proof of p lies, and where the one around it.
func deepest(p *api.Proof) (inner, around *api.Proof) {
	for len(p.Parts) > 0 {
		next := &p.Parts[0]
		for i := range p.Parts {
			if len(p.Parts[i].Parts) > 0 {
				next = &p.Parts[i]
			}
		}
		p, around = next, p
	}
	return p, around
}

// R1, P7.1: proofs of as many levels as there may be.
func TestManyLevels(t *testing.T) {
	const n = 1 << 16
	l, all := towers(n)
	_, other := towers(n)
	for kind, p := range all {
		ids, size := 2, 2*n-1
		if kind == "Include" {
			size = n
		}
		if kind == "Link" {
			ids = 3
		}
		if proof.Check(l, p) != api.OK || len(proof.Support(p)) != ids || proof.Size(p) != size {
			t.Error(kind, proof.Check(l, p), proof.Support(p), proof.Size(p))
		}
		if !proof.Within(p, n-1) || proof.Within(p, n-2) || proof.Within(p, 0) || !proof.Within(p, math.MaxInt) {
			t.Error(kind, "Within")
		}
		q := other[kind]
		if !proof.Same(p, q) || proof.Same(p, p.Parts[0]) {
			t.Error(kind, "Same")
		}
		inner, around := deepest(&q)
		inner.Who += "x"
		if proof.Check(l, q) != api.ErrProof || proof.Same(p, q) || proof.Same(q, p) {
			t.Error(kind, "with another innermost name")
		}
		inner.Who, inner.Cred.Seq = strings.TrimSuffix(inner.Who, "x"), 7
		if proof.Check(l, q) != api.ErrProof || proof.Same(p, q) || !slices.Contains(proof.Support(q), api.ID{Domain: 1, Seq: 7}) {
			t.Error(kind, "with another innermost ID")
		}
		around.Parts = nil
		if proof.Check(l, q) != api.ErrProof || proof.Same(p, q) || !proof.Within(q, n-2) {
			t.Error(kind, "without its innermost proof")
		}
	}
}

// R1, P7.1: proofs with many Parts, and with Parts that are the same ones in memory.
func TestWideProofs(t *testing.T) {
	l, _ := towers(1)
	ann := by(1, "d1.a ann")
	p := by(5, "d1.a ann", slices.Repeat([]api.Proof{ann}, 1<<20)...)
	check(t, l, p, false)
	if got := proof.Support(p); len(got) != 2 || proof.Size(p) != 1<<20+1 || !proof.Within(p, 1) || proof.Within(p, 0) || !proof.Same(p, copied(p)) {
		t.Error(got, proof.Size(p))
	}
	p = ann
	for range 17 {
		p = by(5, "d1.a ann", p, p)
	}
	if proof.Check(l, p) != api.OK || proof.Size(p) != 1<<18-1 || len(proof.Support(p)) != 2 || !proof.Within(p, 17) || proof.Within(p, 16) {
		t.Error("a proof with two Parts at each level")
	}
	q := copied(p)
	if !proof.Same(p, q) {
		t.Error("a copy is another proof")
	}
	all := places(&q)
	all[len(all)-1].Cred.Seq = 2
	if proof.Same(p, q) || proof.Check(l, q) != api.ErrProof || len(proof.Support(q)) != 3 {
		t.Error("with another last ID")
	}
	var some []api.Proof
	for i := 100000; i > 0; i-- {
		some = append(some, by(i, "d1.a ann"), by(i, "d2.a ann"))
	}
	ids := proof.Support(api.Proof{Cred: api.ID{Domain: 1, Seq: 1}, Parts: some})
	for i, id := range ids {
		if len(ids) != 200000 || id.Domain != 1+i/100000 || id.Seq != 1+i%100000 {
			t.Fatal("many IDs:", len(ids), i, id)
		}
	}
}

// R1: no proof and no list makes a call panic or go on for ever, also where nothing in it is as it should be.
func TestExtremes(t *testing.T) {
	long := strings.Repeat("d1.a", 1<<16)
	words := []string{"", "a", "d1", "d17", "\x00\xff", "é", long}
	numbers := []int{0, 1, -1, 2, 3, 4, 5, 16, 17, 4000, 4001, math.MaxInt, math.MinInt}
	var l []api.Cred
	var all []api.Proof
	for _, n := range numbers {
		for _, s := range words {
			l = append(l,
				api.Cred{ID: api.ID{Domain: n, Seq: n}, Name: s, Kind: n, Who: s, A: api.Role{Owner: s, Name: s}, B: api.Role{Owner: s, Name: s}},
				api.Cred{ID: api.ID{Domain: n, Seq: 1}, Name: s, Kind: 1, Who: s},
				api.Cred{ID: api.ID{Domain: 1, Seq: n}, Name: "a", Kind: n, A: api.Role{Name: s}, B: api.Role{Name: s}},
			)
			for _, m := range numbers {
				all = append(all, api.Proof{Role: api.Role{Owner: s, Name: s}, Who: s, Cred: api.ID{Domain: n, Seq: m}, Parts: make([]api.Proof, len(all)%3)})
			}
			for _, d := range words {
				all = append(all, api.Proof{Role: api.Role{Owner: d, Name: s}, Who: s, Cred: api.ID{Domain: n, Seq: 1}}, api.Proof{Role: api.Role{Owner: "d1", Name: "a"}, Who: d, Cred: api.ID{Domain: 1, Seq: n}, Parts: all[len(all)-2:]})
			}
		}
	}
	right := 0
	for i, p := range all {
		ok := correct(l, p)
		if got := proof.Check(l, p); (got == api.OK) != ok || !ok && got != api.ErrProof {
			t.Errorf("%d: %d", i, got)
		}
		if ok {
			right++
		}
		if proof.Check(nil, p) != api.ErrProof || !proof.Same(p, p) || proof.Size(p) != len(places(&p)) || proof.Within(p, math.MinInt) || !proof.Within(p, math.MaxInt) || len(proof.Support(p)) == 0 {
			t.Error(i)
		}
	}
	if right == 0 {
		t.Error("none is correct")
	}
}

// spread returns a copy of p all of whose Parts have room behind their ends, and where that room lies.
func spread(p api.Proof) (api.Proof, [][]api.Proof) {
	var rooms [][]api.Proof
	parts := make([]api.Proof, 0, len(p.Parts)+2)
	for _, part := range p.Parts {
		q, more := spread(part)
		parts, rooms = append(parts, q), append(rooms, more...)
	}
	room := parts[len(parts):cap(parts)]
	for i := range room {
		room[i] = by(99, "d9.room ann", by(98, "d8.room ann"))
	}
	p.Parts = parts
	return p, append(rooms, room)
}

// R4: what is handed in is not changed, also not behind its ends; nil and empty lists are equivalent; results are new memory.
func TestMemory(t *testing.T) {
	many(func(r *rand.Rand, w world, l []api.Cred, p api.Proof) {
		room := append(slices.Clone(l), w.some(r, 4)...)
		before := slices.Clone(room)
		part := room[:len(l)]
		q := copied(p)
		change(r, w, l, &q)
		q, rooms := spread(q)
		text := told(q)
		first, right := proof.Support(q), proof.Check(part, q)
		want := slices.Clone(first)
		size, in, same := proof.Size(q), proof.Within(q, 3), proof.Same(p, q)
		if told(q) != text || !slices.Equal(room, before) {
			t.Fatal("an argument was changed: " + text)
		}
		for i := range first {
			first[i] = api.ID{Domain: -5, Seq: -5}
		}
		clear(first[len(first):cap(first)])
		if got := proof.Support(q); told(q) != text || !slices.Equal(got, want) {
			t.Fatal("a result shares memory with something else: " + text)
		}
		bare := copied(q)
		if proof.Check(part, bare) != right || proof.Size(bare) != size || proof.Within(bare, 3) != in || proof.Same(p, bare) != same || !proof.Same(bare, q) {
			t.Fatal("nil and empty Parts make a difference: " + text)
		}
		for _, room := range rooms {
			for _, x := range room {
				if told(x) != told(by(99, "d9.room ann", by(98, "d8.room ann"))) {
					t.Fatal("what lies behind Parts was changed: " + text)
				}
			}
		}
	})
	p := by(1, "d1.a ann")
	p.Parts = []api.Proof{}
	check(t, list("d1.a <- ann"), p, true)
}

// R4, R5: nothing of an argument is kept: what is changed in it afterwards changes no answer that was given.
func TestNothingKept(t *testing.T) {
	l, p := mixed()
	ids := proof.Support(p)
	want := slices.Clone(ids)
	if proof.Check(l, p) != api.OK {
		t.Fatal("Check")
	}
	for _, x := range places(&p) {
		x.Cred.Seq = 77
	}
	if !slices.Equal(ids, want) || proof.Check(l, p) != api.ErrProof || len(proof.Support(p)) != 5 {
		t.Error(ids, proof.Support(p))
	}
	l, p = mixed()
	if proof.Check(l, p) != api.OK || proof.Check(l[:5], p) != api.ErrProof || proof.Check(l, p) != api.OK {
		t.Error("a call hangs on an earlier one")
	}
}

// R5: the same call answers the same each time, from whichever goroutine.
func TestAgain(t *testing.T) {
	l, p := mixed()
	_, all := towers(300)
	ids, tower := proof.Support(p), all["Link"]
	wrong := copied(p)
	inner, _ := deepest(&wrong)
	inner.Who = "bob"
	var group sync.WaitGroup
	for range 8 {
		group.Go(func() {
			for range 50 {
				if proof.Check(l, p) != api.OK || proof.Check(l, wrong) != api.ErrProof || proof.Check(l, tower) != api.ErrProof {
					t.Error("Check answers otherwise")
				}
				if !slices.Equal(proof.Support(p), ids) || proof.Size(p) != 15 || proof.Size(tower) != 599 {
					t.Error("Support or Size answers otherwise")
				}
				if !proof.Same(p, p) || proof.Same(p, wrong) || !proof.Within(tower, 299) || proof.Within(tower, 298) {
					t.Error("Same or Within answers otherwise")
				}
			}
		})
	}
	group.Wait()
}
