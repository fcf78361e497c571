package chain_test

import (
	"fmt"
	"math"
	"math/rand/v2"
	"slices"
	"strconv"
	"strings"
	"sync"
	"testing"

	"livery/api"
	"livery/chain"
	"livery/cred"
	"livery/names"
	"livery/proof"
	"livery/solve"
)

// roleOf returns the role that has a text.
func roleOf(text string) api.Role {
	owner, name, _ := strings.Cut(text, ".")
	return api.Role{Owner: owner, Name: name}
}

// rolesOf returns the roles that have these texts.
func rolesOf(texts ...string) []api.Role {
	var all []api.Role
	for _, text := range texts {
		all = append(all, roleOf(text))
	}
	return all
}

// pairOf returns the pair that is written as a role, a blank and a name.
func pairOf(text string) solve.Pair {
	role, who, _ := strings.Cut(text, " ")
	return solve.Pair{Role: roleOf(role), Who: who}
}

// idOf returns the ID that is written as a domain, a blank and a number.
func idOf(text string) api.ID {
	domain, seq, _ := strings.Cut(text, " ")
	d, _ := strconv.Atoi(domain)
	n, _ := strconv.Atoi(seq)
	return api.ID{Domain: d, Seq: n}
}

// idsOf returns the IDs that are written so.
func idsOf(texts ...string) []api.ID {
	var all []api.ID
	for _, text := range texts {
		all = append(all, idOf(text))
	}
	return all
}

// given returns the credential of its domain with a number and a text.
func given(seq int, text string) api.Cred {
	left, right, _ := strings.Cut(text, " <- ")
	role := roleOf(left)
	c := api.Cred{ID: api.ID{Domain: names.Number(role.Owner), Seq: seq}, Name: role.Name}
	a, b, both := strings.Cut(right, " & ")
	switch words := strings.Split(right, "."); {
	case both:
		c.Kind, c.A, c.B = api.Both, roleOf(a), roleOf(b)
	case len(words) == 1:
		c.Kind, c.Who = api.Member, right
	case len(words) == 2:
		c.Kind, c.A = api.Include, roleOf(right)
	default:
		c.Kind, c.A.Name, c.B.Name = api.Link, words[1], words[2]
	}
	if got, e := cred.Text(c); e != api.OK || got != text {
		panic("a test's credential has another text than " + text + ": " + got)
	}
	return c
}

// list returns the credentials with these texts, each numbered by its place, from 1 on.
func list(texts ...string) []api.Cred {
	var l []api.Cred
	for i, text := range texts {
		l = append(l, given(i+1, text))
	}
	return l
}

// by returns the proof of a pair, by the credential with a number of the role's domain.
func by(seq int, pair string, parts ...api.Proof) api.Proof {
	p := pairOf(pair)
	return api.Proof{Role: p.Role, Who: p.Who, Cred: api.ID{Domain: names.Number(p.Role.Owner), Seq: seq}, Parts: parts}
}

// told returns a proof as text. Different proofs have different texts.
func told(p api.Proof) string {
	var b strings.Builder
	var tell func(p api.Proof)
	tell = func(p api.Proof) {
		fmt.Fprintf(&b, "{%q.%q %q (%d, %d)", p.Role.Owner, p.Role.Name, p.Who, p.Cred.Domain, p.Cred.Seq)
		for _, part := range p.Parts {
			b.WriteString(" ")
			tell(part)
		}
		b.WriteString("}")
	}
	tell(p)
	return b.String()
}

// texts returns credentials as text, also such as are not valid.
func texts(l []api.Cred) string {
	var b strings.Builder
	for _, c := range l {
		text, e := cred.Text(c)
		if e != api.OK {
			text = fmt.Sprintf("not valid: %+v", c)
		}
		fmt.Fprintf(&b, "\n\t%d %d: %s", c.ID.Domain, c.ID.Seq, text)
	}
	return b.String()
}

// each calls see with p and its Parts, at all depths, and with the depth of each.
func each(p api.Proof, see func(p api.Proof, depth int)) {
	var visit func(p api.Proof, depth int)
	visit = func(p api.Proof, depth int) {
		see(p, depth)
		for _, part := range p.Parts {
			visit(part, depth+1)
		}
	}
	visit(p, 0)
}

// levels returns the depth of a proof: in how many others the innermost ones in it are.
func levels(p api.Proof) int {
	most := 0
	each(p, func(_ api.Proof, depth int) { most = max(most, depth) })
	return most
}

// ordered returns IDs in order, each once.
func ordered(ids []api.ID) []api.ID {
	ids = slices.Clone(ids)
	slices.SortFunc(ids, func(a, b api.ID) int {
		if a.Domain != b.Domain {
			return a.Domain - b.Domain
		}
		return a.Seq - b.Seq
	})
	return slices.Compact(ids)
}

// supportOf returns the IDs in proofs, in order, each once.
func supportOf(proofs ...api.Proof) []api.ID {
	var ids []api.ID
	for _, p := range proofs {
		each(p, func(p api.Proof, _ int) { ids = append(ids, p.Cred) })
	}
	return ordered(ids)
}

// implied demands that the pair that p is a proof of is implied by l, that p is its proof, and n its round.
func implied(t *testing.T, l []api.Cred, n int, p api.Proof) {
	t.Helper()
	got, e := chain.Find(l, p.Who, p.Role)
	if e != api.OK || told(got) != told(p) {
		t.Errorf("Find of %s, %s is\n%s, error %d, want\n%s, of%s", p.Who, names.Text(p.Role), told(got), e, told(p), texts(l))
	}
	if got := chain.Round(l, p.Who, p.Role); got != n {
		t.Errorf("Round of %s, %s is %d, want %d, of%s", p.Who, names.Text(p.Role), got, n, texts(l))
	}
	ids, e := chain.Support(l, p.Who, []api.Role{p.Role})
	if want := supportOf(p); e != api.OK || !slices.Equal(ids, want) {
		t.Errorf("Support of %s, %s is %v, error %d, want %v, of%s", p.Who, names.Text(p.Role), ids, e, want, texts(l))
	}
	if e := proof.Check(l, p); e != api.OK || levels(p) != n-1 {
		t.Errorf("the test's own proof has %d levels, and is correct: %d, of%s", levels(p), e, texts(l))
	}
}

// denied demands that l does not imply a pair.
func denied(t *testing.T, l []api.Cred, p solve.Pair) {
	t.Helper()
	got, e := chain.Find(l, p.Who, p.Role)
	if e != api.ErrDenied || told(got) != told(api.Proof{}) {
		t.Errorf("Find of %.40q, %.40q is %s, error %d, of%s", p.Who, names.Text(p.Role), told(got), e, texts(l))
	}
	if got := chain.Round(l, p.Who, p.Role); got != 0 {
		t.Errorf("Round of %.40q, %.40q is %d, of%s", p.Who, names.Text(p.Role), got, texts(l))
	}
	if got, e := chain.Support(l, p.Who, []api.Role{p.Role}); e != api.ErrDenied || len(got) != 0 {
		t.Errorf("Support of %.40q, %.40q is %v, error %d, of%s", p.Who, names.Text(p.Role), got, e, texts(l))
	}
}

// turned returns a list turned round.
func turned(l []api.Cred) []api.Cred {
	l = slices.Clone(l)
	slices.Reverse(l)
	return l
}

// P8.1: the chapter's own examples, and those of the whole.
func TestExamples(t *testing.T) {
	l := []api.Cred{
		{ID: api.ID{Domain: 1, Seq: 1}, Name: "a", Kind: api.Include, A: api.Role{Owner: "d2", Name: "b"}},
		{ID: api.ID{Domain: 1, Seq: 2}, Name: "a", Kind: api.Member, Who: "ann"},
		{ID: api.ID{Domain: 2, Seq: 1}, Name: "b", Kind: api.Member, Who: "ann"},
	}
	role := api.Role{Owner: "d1", Name: "a"}
	p, e := chain.Find(l, "ann", role)
	if e != api.OK || p.Role != role || p.Who != "ann" || p.Cred != (api.ID{Domain: 1, Seq: 2}) || len(p.Parts) != 0 || chain.Round(l, "ann", role) != 1 {
		t.Error(told(p), e)
	}
	if p, e := chain.Find(l, "bob", role); e != api.ErrDenied || told(p) != told(api.Proof{}) {
		t.Error(told(p), e)
	}
	for _, roles := range [][]api.Role{nil, {}} {
		if ids, e := chain.Support(l, "ann", roles); e != api.OK || len(ids) != 0 {
			t.Error(ids, e)
		}
	}
	implied(t, list("d1.a <- d2.b", "d2.b <- ann"), 2, by(1, "d1.a ann", by(2, "d2.b ann")))
	implied(t, list("d1.a <- d1.b.c", "d1.b <- d2", "d2.c <- bob"), 2, by(1, "d1.a bob", by(2, "d1.b d2"), by(3, "d2.c bob")))
}

// P8.1: pairs that are implied by a credential of each kind alone, and by several kinds.
func TestImplied(t *testing.T) {
	for _, x := range []struct {
		what  string
		texts []string
		round int
		want  api.Proof
	}{
		{"a Member", []string{"d1.a <- ann"}, 1, by(1, "d1.a ann")},
		{"a Member that is a domain", []string{"d1.a <- d1"}, 1, by(1, "d1.a d1")},
		{"a Member that is nearly a domain", []string{"d1.a <- d17", "d1.a <- d01"}, 1, by(1, "d1.a d17")},
		{"a Member among other names' ones", []string{"d1.a <- bob", "d1.a <- an", "d1.a <- ann", "d1.a <- annn"}, 1, by(3, "d1.a ann")},
		{"a Member among other roles' ones", []string{"d2.a <- ann", "d1.b <- ann", "d11.a <- ann", "d1.a <- ann", "d1.a1 <- ann"}, 1, by(4, "d1.a ann")},

		{"an Include", []string{"d1.a <- d2.b", "d2.b <- ann"}, 2, by(1, "d1.a ann", by(2, "d2.b ann"))},
		{"an Include of its own domain", []string{"d1.b <- ann", "d1.a <- d1.b"}, 2, by(2, "d1.a ann", by(1, "d1.b ann"))},
		{"Includes of Includes", []string{"d1.a <- d2.a", "d2.a <- d3.a", "d3.a <- d4.a", "d4.a <- ann"}, 4, by(1, "d1.a ann", by(2, "d2.a ann", by(3, "d3.a ann", by(4, "d4.a ann"))))},
		{"an Include, for a domain", []string{"d1.a <- d2.b", "d2.b <- d16"}, 2, by(1, "d1.a d16", by(2, "d2.b d16"))},

		{"a Link", []string{"d1.a <- d1.b.c", "d1.b <- d2", "d2.c <- ann"}, 2, by(1, "d1.a ann", by(2, "d1.b d2"), by(3, "d2.c ann"))},
		{"a Link of another domain", []string{"d5.a <- d5.b.c", "d1.b <- d3", "d5.b <- d2", "d2.c <- ann", "d3.c <- ann"}, 2, by(1, "d5.a ann", by(3, "d5.b d2"), by(4, "d2.c ann"))},
		{"a Link by its own domain", []string{"d1.a <- d1.b.c", "d1.b <- d1", "d1.c <- ann"}, 2, by(1, "d1.a ann", by(2, "d1.b d1"), by(3, "d1.c ann"))},
		{"a Link, for the domain by which it goes", []string{"d1.a <- d1.b.c", "d1.b <- d2", "d2.c <- d2"}, 2, by(1, "d1.a d2", by(2, "d1.b d2"), by(3, "d2.c d2"))},
		{"a Link, for another domain than the one by which it goes", []string{"d1.a <- d1.b.c", "d1.b <- d2", "d2.c <- d3", "d3.c <- d2"}, 2, by(1, "d1.a d3", by(2, "d1.b d2"), by(3, "d2.c d3"))},
		{"a Link whose roles have one Name", []string{"d1.a <- d1.b.b", "d1.b <- d2", "d2.b <- ann"}, 2, by(1, "d1.a ann", by(2, "d1.b d2"), by(3, "d2.b ann"))},
		{"a Link whose domain is found late", []string{"d1.a <- d1.b.c", "d1.b <- d3.x", "d3.x <- d3.y", "d3.y <- d2", "d2.c <- ann"}, 4, by(1, "d1.a ann", by(2, "d1.b d2", by(3, "d3.x d2", by(4, "d3.y d2"))), by(5, "d2.c ann"))},
		{"a Link whose other role is had late", []string{"d1.a <- d1.b.c", "d1.b <- d2", "d2.c <- d3.x", "d3.x <- d3.y", "d3.y <- ann"}, 4, by(1, "d1.a ann", by(2, "d1.b d2"), by(3, "d2.c ann", by(4, "d3.x ann", by(5, "d3.y ann"))))},
		{"a Link whose both roles are had in the same round", []string{"d1.a <- d1.b.c", "d1.b <- d3.x", "d3.x <- d2", "d2.c <- d3.y", "d3.y <- ann"}, 3, by(1, "d1.a ann", by(2, "d1.b d2", by(3, "d3.x d2")), by(4, "d2.c ann", by(5, "d3.y ann")))},
		{"a Link that finds domains by itself", []string{"d1.a <- d1.a.b", "d1.a <- d2", "d2.b <- d3", "d3.b <- d4", "d4.b <- ann"}, 4,
			by(1, "d1.a ann", by(1, "d1.a d4", by(1, "d1.a d3", by(2, "d1.a d2"), by(3, "d2.b d3")), by(4, "d3.b d4")), by(5, "d4.b ann"))},
		{"a Link whose other role is its own one, of its domain", []string{"d1.a <- d1.b.a", "d1.b <- d2", "d2.a <- d2.b.a", "d2.b <- d3", "d3.a <- ann"}, 3,
			by(1, "d1.a ann", by(2, "d1.b d2"), by(3, "d2.a ann", by(4, "d2.b d3"), by(5, "d3.a ann")))},

		{"a Both", []string{"d1.a <- d2.b & d3.c", "d2.b <- ann", "d3.c <- ann"}, 2, by(1, "d1.a ann", by(2, "d2.b ann"), by(3, "d3.c ann"))},
		{"a Both whose second role precedes its first", []string{"d1.a <- d3.c & d2.b", "d2.b <- ann", "d3.c <- ann"}, 2, by(1, "d1.a ann", by(3, "d3.c ann"), by(2, "d2.b ann"))},
		{"a Both of one role", []string{"d1.a <- d2.b & d2.b", "d2.b <- ann"}, 2, by(1, "d1.a ann", by(2, "d2.b ann"), by(2, "d2.b ann"))},
		{"a Both, for a domain", []string{"d1.a <- d2.b & d3.c", "d2.b <- d4", "d3.c <- d4"}, 2, by(1, "d1.a d4", by(2, "d2.b d4"), by(3, "d3.c d4"))},
		{"a Both whose first role is had late", []string{"d1.a <- d2.b & d3.c", "d2.b <- d2.x", "d2.x <- ann", "d3.c <- ann"}, 3, by(1, "d1.a ann", by(2, "d2.b ann", by(3, "d2.x ann")), by(4, "d3.c ann"))},
		{"a Both whose second role is had late", []string{"d1.a <- d2.b & d3.c", "d2.b <- ann", "d3.c <- d3.x", "d3.x <- ann"}, 3, by(1, "d1.a ann", by(2, "d2.b ann"), by(3, "d3.c ann", by(4, "d3.x ann")))},
		{"a Both whose roles are had in the same late round", []string{"d1.a <- d2.b & d3.c", "d2.b <- d2.x", "d3.c <- d2.x", "d2.x <- ann"}, 3, by(1, "d1.a ann", by(2, "d2.b ann", by(4, "d2.x ann")), by(3, "d3.c ann", by(4, "d2.x ann")))},
		{"a Both of a role and what follows from it", []string{"d1.a <- d1.b & d1.c", "d1.b <- d1.c", "d1.c <- ann"}, 3, by(1, "d1.a ann", by(2, "d1.b ann", by(3, "d1.c ann")), by(3, "d1.c ann"))},
		{"a Both of what follows from a role, and the role", []string{"d1.a <- d1.b & d1.c", "d1.c <- d1.b", "d1.b <- ann"}, 3, by(1, "d1.a ann", by(3, "d1.b ann"), by(2, "d1.c ann", by(3, "d1.b ann")))},

		{"pairs that follow from each other, and a beginning", []string{"d1.a <- d2.b", "d2.b <- d1.a", "d2.b <- ann"}, 2, by(1, "d1.a ann", by(3, "d2.b ann"))},
		{"a role that includes itself", []string{"d1.a <- d1.a", "d1.a <- d2.b", "d2.b <- ann"}, 2, by(2, "d1.a ann", by(3, "d2.b ann"))},
		{"a Both with its own role, behind an Include", []string{"d1.a <- d1.a & d2.b", "d1.a <- d2.b", "d2.b <- ann"}, 2, by(2, "d1.a ann", by(3, "d2.b ann"))},
		{"a ring that is entered in the middle", []string{"d1.a <- d2.a", "d2.a <- d3.a", "d3.a <- d4.a", "d4.a <- d1.a", "d3.a <- ann"}, 3, by(1, "d1.a ann", by(2, "d2.a ann", by(5, "d3.a ann")))},
		{"the same ring, the other way round", []string{"d1.a <- d2.a", "d2.a <- d3.a", "d3.a <- d4.a", "d4.a <- d1.a", "d1.a <- ann"}, 1, by(5, "d1.a ann")},
	} {
		t.Run(x.what, func(t *testing.T) {
			implied(t, list(x.texts...), x.round, x.want)
			implied(t, turned(list(x.texts...)), x.round, x.want)
		})
	}
}

// mixed returns credentials of all kinds, and the proof of a pair by all of them but the last ones.
func mixed() ([]api.Cred, api.Proof) {
	l := list(
		"d1.top <- d2.b & d1.l", // 1
		"d2.b <- d3.c",          // 2
		"d3.c <- d3.f.s",        // 3
		"d3.f <- d4.x & d4.y",   // 4
		"d4.x <- d5",            // 5
		"d4.y <- d4.x",          // 6
		"d5.s <- d6.t",          // 7
		"d6.t <- ann",           // 8
		"d1.l <- d1.g.s",        // 9
		"d1.g <- d3.f",          // 10
		"d1.top <- bob",         // 11
		"d6.t <- cid",           // 12
		"d1.l <- d1.top",        // 13
		"d2.b <- d1.top",        // 14
	)
	x := by(5, "d4.x d5")
	f := by(4, "d3.f d5", x, by(6, "d4.y d5", x))
	s := by(7, "d5.s ann", by(8, "d6.t ann"))
	return l, by(1, "d1.top ann",
		by(2, "d2.b ann", by(3, "d3.c ann", f, s)),
		by(9, "d1.l ann", by(10, "d1.g d5", f), s))
}

// P8.1: several kinds at several levels; each of the Parts, at all depths, is the proof of its own pair.
func TestMixed(t *testing.T) {
	l, p := mixed()
	for range 3 {
		each(p, func(part api.Proof, _ int) { implied(t, l, 1+levels(part), part) })
		l = turned(l)
	}
	cid := func(s string) string {
		return strings.ReplaceAll(strings.ReplaceAll(s, "ann", "cid"), "(6, 8)", "(6, 12)")
	}
	if got, e := chain.Find(l, "cid", roleOf("d1.top")); e != api.OK || told(got) != cid(told(p)) {
		t.Error(told(got), e)
	}
	implied(t, l, 1, by(11, "d1.top bob"))
	implied(t, l, 2, by(13, "d1.l bob", by(11, "d1.top bob")))
	denied(t, l, pairOf("d3.c bob"))
	denied(t, l, pairOf("d1.top d5"))
}

// P8.1: pairs that are not implied, also such as wait for one another.
func TestDenied(t *testing.T) {
	for _, x := range []struct {
		what  string
		texts []string
		pairs []string
	}{
		{"no credentials", nil, []string{"d1.a ann", "d1.a d1", "d16.a ann"}},
		{"a Member, for others", []string{"d1.a <- ann"}, []string{"d1.a bob", "d1.a an", "d1.a annn", "d1.a d1", "d1.a d16", "d1.b ann", "d2.a ann", "d1.aa ann"}},
		{"an Include of what nobody has", []string{"d1.a <- d2.b"}, []string{"d1.a ann", "d1.a d2", "d1.a b", "d2.b ann"}},
		{"an Include does not lead back", []string{"d1.a <- d2.b", "d1.a <- ann"}, []string{"d2.b ann"}},
		{"an Include of another role", []string{"d1.a <- d2.b", "d2.c <- ann", "d3.b <- ann"}, []string{"d1.a ann"}},
		{"an Include, for another name", []string{"d1.a <- d2.b", "d2.b <- bob"}, []string{"d1.a ann"}},
		{"a Link alone", []string{"d1.a <- d1.b.c"}, []string{"d1.a ann", "d1.a d1", "d1.b d1"}},
		{"a Link, for the domain by which it goes", []string{"d1.a <- d1.b.c", "d1.b <- d2", "d2.c <- bob"}, []string{"d1.a d2", "d1.a ann", "d2.c d2", "d1.b bob"}},
		{"a Link by another domain", []string{"d1.a <- d1.b.c", "d1.b <- d2", "d3.c <- ann", "d1.c <- ann"}, []string{"d1.a ann"}},
		{"a Link by a domain without the role", []string{"d1.a <- d1.b.c", "d1.b <- d2", "d2.d <- ann"}, []string{"d1.a ann"}},
		{"a Link whose own role is another domain's", []string{"d1.a <- d1.b.c", "d2.b <- d3", "d3.c <- ann"}, []string{"d1.a ann"}},
		{"a Link by names that are no domains", []string{"d1.a <- d1.b.c", "d1.b <- d17", "d1.b <- d", "d1.b <- d02", "d1.b <- d0", "d1.b <- ann", "d2.c <- ann", "d1.c <- ann"}, []string{"d1.a ann", "d1.a d17"}},
		{"a Link by the name that is asked for, which is no domain", []string{"d1.a <- d1.b.c", "d1.b <- ann", "d1.c <- ann"}, []string{"d1.a ann"}},
		{"a Link, the roles the other way round", []string{"d1.a <- d1.b.c", "d1.c <- d2", "d2.b <- ann"}, []string{"d1.a ann"}},
		{"a Both with the first role alone", []string{"d1.a <- d2.b & d3.c", "d2.b <- ann"}, []string{"d1.a ann"}},
		{"a Both with the second role alone", []string{"d1.a <- d2.b & d3.c", "d3.c <- ann"}, []string{"d1.a ann"}},
		{"a Both with a role each of two names", []string{"d1.a <- d2.b & d3.c", "d2.b <- ann", "d3.c <- bob"}, []string{"d1.a ann", "d1.a bob"}},
		{"a Both with a role of a domain, the other one of a name", []string{"d1.a <- d2.b & d3.c", "d2.b <- d1", "d3.c <- ann"}, []string{"d1.a ann", "d1.a d1"}},

		{"an Include of its own role", []string{"d1.a <- d1.a"}, []string{"d1.a ann", "d1.a d1"}},
		{"two Includes of each other", []string{"d1.a <- d2.b", "d2.b <- d1.a", "d3.c <- ann"}, []string{"d1.a ann", "d2.b ann"}},
		{"a ring of Includes", []string{"d1.a <- d2.a", "d2.a <- d3.a", "d3.a <- d1.a", "d1.a <- bob"}, []string{"d1.a ann", "d2.a ann", "d3.a ann"}},
		{"a Both with its own role", []string{"d1.a <- d1.a & d2.b", "d2.b <- ann"}, []string{"d1.a ann"}},
		{"two Boths of each other", []string{"d1.a <- d1.b & d1.c", "d1.b <- d1.a & d1.c", "d1.c <- ann"}, []string{"d1.a ann", "d1.b ann"}},
		{"a Link of its own role", []string{"d1.a <- d1.a.a", "d1.a <- ann"}, []string{"d1.a d1", "d1.a bob"}},
		{"a Link that would have to find its own domain", []string{"d1.a <- d1.a.b", "d2.b <- d2", "d1.b <- d1"}, []string{"d1.a d1", "d1.a d2"}},
		{"a Link to its own role", []string{"d1.a <- d1.b.a", "d1.b <- d1"}, []string{"d1.a ann", "d1.a d1"}},
		{"two Links of each other's roles", []string{"d1.a <- d1.b.c", "d1.b <- d1.a.c", "d2.c <- d2"}, []string{"d1.a d2", "d1.b d2"}},
		{"a ring of all kinds", []string{"d1.a <- d2.b", "d2.b <- d2.x.c", "d2.x <- d3", "d3.c <- d3.d & d3.e", "d3.d <- d1.a", "d3.e <- ann"}, []string{"d1.a ann", "d2.b ann", "d3.c ann", "d3.d ann"}},
	} {
		t.Run(x.what, func(t *testing.T) {
			for _, p := range x.pairs {
				denied(t, list(x.texts...), pairOf(p))
				denied(t, turned(list(x.texts...)), pairOf(p))
			}
		})
	}
}

// P8.1: of several credentials by which a pair is implied, the first one, in the order of IDs, is used that derives it
// from pairs of earlier rounds than its own; one with a lower ID that needs pairs of its own round, or of a later one, is not.
func TestFirstCredential(t *testing.T) {
	for _, x := range []struct {
		what  string
		texts []string
		round int
		want  api.Proof
	}{
		{"two Members that say the same", []string{"d1.a <- ann", "d1.a <- ann"}, 1, by(1, "d1.a ann")},
		{"a Member behind another kind's one that comes later", []string{"d1.a <- d2.b", "d1.a <- ann", "d2.b <- ann"}, 1, by(2, "d1.a ann")},
		{"a Member ahead of an Include", []string{"d1.a <- ann", "d1.a <- d2.b", "d2.b <- ann"}, 1, by(1, "d1.a ann")},
		{"a Member behind one of each kind", []string{"d1.a <- d2.b", "d1.a <- d1.f.b", "d1.a <- d2.b & d2.b", "d1.a <- ann", "d2.b <- ann", "d1.f <- d2"}, 1, by(4, "d1.a ann")},

		{"two Includes of one round", []string{"d1.a <- d2.b", "d1.a <- d3.c", "d2.b <- ann", "d3.c <- ann"}, 2, by(1, "d1.a ann", by(3, "d2.b ann"))},
		{"two Includes of one round, the roles in the other order", []string{"d1.a <- d3.c", "d1.a <- d2.b", "d2.b <- ann", "d3.c <- ann"}, 2, by(1, "d1.a ann", by(4, "d3.c ann"))},
		{"two Includes, the first one in a later round", []string{"d1.a <- d2.b", "d1.a <- d3.c", "d2.b <- d2.x", "d2.x <- ann", "d3.c <- ann"}, 2, by(2, "d1.a ann", by(5, "d3.c ann"))},
		{"two Includes, the second one in a later round", []string{"d1.a <- d2.b", "d1.a <- d3.c", "d3.c <- d2.x", "d2.x <- ann", "d2.b <- ann"}, 2, by(1, "d1.a ann", by(5, "d2.b ann"))},
		{"an Include that is had one round too late", []string{"d1.a <- d2.b", "d1.a <- d3.c", "d2.b <- d3.c", "d3.c <- d3.x", "d3.x <- ann"}, 3, by(2, "d1.a ann", by(4, "d3.c ann", by(5, "d3.x ann")))},
		{"an Include of what follows from the pair itself", []string{"d1.a <- d2.b", "d2.b <- d1.a", "d1.a <- d3.c", "d3.c <- ann"}, 2, by(3, "d1.a ann", by(4, "d3.c ann"))},

		{"one of each kind, an Include first", []string{"d1.a <- d2.b", "d1.a <- d1.f.b", "d1.a <- d2.b & d2.c", "d2.b <- ann", "d2.c <- ann", "d1.f <- d2"}, 2, by(1, "d1.a ann", by(4, "d2.b ann"))},
		{"one of each kind, a Link first", []string{"d1.a <- d1.f.b", "d1.a <- d2.b & d2.c", "d1.a <- d2.b", "d2.b <- ann", "d2.c <- ann", "d1.f <- d2"}, 2, by(1, "d1.a ann", by(6, "d1.f d2"), by(4, "d2.b ann"))},
		{"one of each kind, a Both first", []string{"d1.a <- d2.b & d2.c", "d1.a <- d2.b", "d1.a <- d1.f.b", "d2.b <- ann", "d2.c <- ann", "d1.f <- d2"}, 2, by(1, "d1.a ann", by(4, "d2.b ann"), by(5, "d2.c ann"))},

		{"a Both whose first role is had too late", []string{"d1.a <- d2.b & d2.c", "d1.a <- d2.c", "d2.b <- d2.c", "d2.c <- ann"}, 2, by(2, "d1.a ann", by(4, "d2.c ann"))},
		{"a Both whose second role is had too late", []string{"d1.a <- d2.c & d2.b", "d1.a <- d2.c", "d2.b <- d2.c", "d2.c <- ann"}, 2, by(2, "d1.a ann", by(4, "d2.c ann"))},
		{"a Both whose roles are had in unlike rounds, in time", []string{"d1.a <- d2.b & d2.c", "d1.a <- d2.b", "d2.b <- d2.c", "d2.c <- ann"}, 3, by(1, "d1.a ann", by(3, "d2.b ann", by(4, "d2.c ann")), by(4, "d2.c ann"))},
		{"a Link whose own role is had too late", []string{"d1.a <- d1.f.b", "d1.a <- d2.b", "d1.f <- d1.g", "d1.g <- d2", "d2.b <- ann"}, 2, by(2, "d1.a ann", by(5, "d2.b ann"))},
		{"a Link whose other role is had too late", []string{"d1.a <- d1.f.b", "d1.a <- d2.c", "d1.f <- d2", "d2.b <- d2.c", "d2.c <- ann"}, 2, by(2, "d1.a ann", by(5, "d2.c ann"))},
		{"two Links, the first one too late", []string{"d1.a <- d1.f.b", "d1.a <- d1.g.b", "d1.f <- d1.g", "d1.g <- d2", "d2.b <- ann"}, 2, by(2, "d1.a ann", by(4, "d1.g d2"), by(5, "d2.b ann"))},
		{"two Links in time", []string{"d1.a <- d1.g.b", "d1.a <- d1.f.b", "d1.f <- d2", "d1.g <- d2", "d2.b <- ann"}, 2, by(1, "d1.a ann", by(4, "d1.g d2"), by(5, "d2.b ann"))},
		{"a Link by a later domain, ahead of one by an earlier one", []string{"d1.a <- d1.g.b", "d1.a <- d1.f.b", "d1.g <- d16", "d1.f <- d2", "d2.b <- ann", "d16.b <- ann"}, 2, by(1, "d1.a ann", by(3, "d1.g d16"), by(6, "d16.b ann"))},

		{"Seqs in the order of numbers", []string{"d2.x <- bob", "d1.a <- d2.b", "d2.x <- bob", "d2.x <- bob", "d2.x <- bob", "d2.x <- bob", "d2.x <- bob", "d2.x <- bob", "d2.x <- bob", "d1.a <- d2.c", "d2.b <- ann", "d2.c <- ann"}, 2, by(2, "d1.a ann", by(11, "d2.b ann"))},
		{"in the parts, too", []string{"d1.a <- d2.b", "d2.b <- d3.c", "d2.b <- d3.d", "d3.c <- d3.d", "d3.d <- d3.e", "d3.d <- ann", "d3.e <- ann", "d3.d <- ann"}, 3, by(1, "d1.a ann", by(3, "d2.b ann", by(6, "d3.d ann")))},
		{"one that is in time for a pair, and one for the pair that it leads to", []string{"d1.a <- d1.b & d1.c", "d1.b <- d1.c", "d1.b <- d1.e", "d1.c <- d1.e", "d1.e <- d1.f", "d1.f <- ann"}, 4,
			by(1, "d1.a ann", by(3, "d1.b ann", by(5, "d1.e ann", by(6, "d1.f ann"))), by(4, "d1.c ann", by(5, "d1.e ann", by(6, "d1.f ann"))))},
	} {
		t.Run(x.what, func(t *testing.T) {
			l := list(x.texts...)
			r := source(1)
			for range 10 {
				implied(t, l, x.round, x.want)
				r.Shuffle(len(l), func(i, j int) { l[i], l[j] = l[j], l[i] })
			}
		})
	}
}

// P8.1: the order of credentials is that of the numbers in their IDs, not of their texts, and not that of the list.
func TestOrderOfIDs(t *testing.T) {
	seqs := []int{1, 2, 3, 9, 10, 11, 99, 100, 255, 256, 257, 999, 1000, 3999, 4000}
	for i, low := range seqs {
		for _, high := range seqs[i+1:] {
			l := []api.Cred{given(low, "d1.a <- d2.b"), given(high, "d1.a <- d2.c"), given(1, "d2.b <- ann"), given(2, "d2.c <- ann")}
			want := api.Proof{Role: roleOf("d1.a"), Who: "ann", Cred: api.ID{Domain: 1, Seq: low}, Parts: []api.Proof{by(1, "d2.b ann")}}
			implied(t, l, 2, want)
			implied(t, turned(l), 2, want)
		}
	}
}

// P8.1: a Link goes by the domain with the least number of those by which it derives a pair from earlier rounds.
func TestFirstDomain(t *testing.T) {
	for low := 1; low <= 16; low++ {
		for high := low + 1; high <= 16; high++ {
			a, b := names.Domain(low), names.Domain(high)
			l := list("d3.a <- d3.b.c", "d3.b <- "+b, "d3.b <- "+a, b+".c <- ann", a+".c <- ann")
			want := by(1, "d3.a ann", by(3, "d3.b "+a), by(5, a+".c ann"))
			implied(t, l, 2, want)
			implied(t, turned(l), 2, want)

			late := list("d3.a <- d3.b.c", "d3.b <- "+b, "d3.b <- d3.x", "d3.x <- "+a, b+".c <- ann", a+".c <- ann")
			want = by(1, "d3.a ann", by(2, "d3.b "+b), by(5, b+".c ann"))
			implied(t, late, 2, want)
			late = list("d3.a <- d3.b.c", "d3.b <- "+b, "d3.b <- "+a, b+".c <- ann", a+".c <- d3.x", "d3.x <- ann")
			want = by(1, "d3.a ann", by(2, "d3.b "+b), by(4, b+".c ann"))
			implied(t, late, 2, want)
			both := list("d3.a <- d3.b.c", "d3.b <- "+a, "d3.b <- d3.x", "d3.x <- "+b, a+".c <- d3.y", b+".c <- ann", "d3.y <- ann")
			want = by(1, "d3.a ann", by(2, "d3.b "+a), by(5, a+".c ann", by(7, "d3.y ann")))
			implied(t, both, 3, want)
		}
	}
	l := []api.Cred{given(1, "d1.a <- d1.b.c")}
	for n := 16; n >= 1; n-- {
		d := names.Domain(n)
		l = append(l, given(20+n, "d1.b <- "+d), given(50+n, d+".c <- ann"))
		want := by(1, "d1.a ann", by(20+n, "d1.b "+d), by(50+n, d+".c ann"))
		implied(t, l, 2, want)
	}
}

// P8.1: a credential that comes first goes ahead of a lower domain by another one, which a later credential finds.
func TestCredentialAheadOfDomain(t *testing.T) {
	l := list("d1.a <- d1.b.c", "d1.a <- d1.e.c", "d1.b <- d10", "d1.e <- d2", "d10.c <- ann", "d2.c <- ann")
	implied(t, l, 2, by(1, "d1.a ann", by(3, "d1.b d10"), by(5, "d10.c ann")))
	l = list("d1.a <- d1.b.c", "d1.b <- d10", "d1.b <- d2", "d10.c <- ann", "d2.c <- d3.x", "d3.x <- ann", "d1.a <- d1.e.x", "d1.e <- d3")
	implied(t, l, 2, by(1, "d1.a ann", by(2, "d1.b d10"), by(4, "d10.c ann")))
}

// P8.1: what is no role is nobody's, and what is no name has none.
func TestNoRoleNoName(t *testing.T) {
	l := append(list("d1.b <- d2", "d1.b <- ann", "d1.a <- d1.b", "d1.l <- d1.b.c", "d2.c <- bob"), api.Cred{ID: api.ID{Domain: 17, Seq: 1}, Name: "a", Kind: 1, Who: "ann"}, api.Cred{Name: "a", Kind: 1, Who: "ann"}, api.Cred{ID: api.ID{Domain: 1, Seq: 9}, Name: "a", Kind: 1})
	for _, role := range []api.Role{{}, {Name: "a"}, {Name: "b"}, {Owner: "d1"}, {Owner: "d17", Name: "a"}, {Owner: "d01", Name: "a"}, {Owner: "D1", Name: "a"}, {Owner: "ann", Name: "b"}, {Owner: "d1", Name: "A"}, {Owner: "d1", Name: "a "}, {Owner: "d1.", Name: "a"}, {Owner: "d1", Name: "b.c"}, {Owner: "d3", Name: "b"}, {Owner: "d1\x00", Name: "b"}, {Owner: "\xff", Name: "\xff"}, {Owner: "d1.a"}, {Owner: strings.Repeat("d1", 1000), Name: strings.Repeat("b", 1000)}} {
		for _, who := range []string{"", "ann", "d2", "bob", "d17"} {
			denied(t, l, solve.Pair{Role: role, Who: who})
		}
	}
	for _, who := range []string{"", "Ann", "ann ", "an", "annn", "d3", "d02", "d", "d1.b", "d17", "\x00", "\xff", "é", strings.Repeat("ann", 1000)} {
		for _, role := range []string{"d1.a", "d1.b", "d1.l", "d2.c"} {
			denied(t, l, solve.Pair{Role: roleOf(role), Who: who})
		}
	}
}

// P8.1: credentials that are not valid, and such as have the ID of a valid one ahead of them, make no difference.
func TestEffective(t *testing.T) {
	a, b := given(1, "d1.a <- ann"), given(1, "d1.a <- bob")
	for _, x := range []struct {
		l        []api.Cred
		has, not string
	}{
		{[]api.Cred{a, b}, "d1.a ann", "d1.a bob"},
		{[]api.Cred{b, a}, "d1.a bob", "d1.a ann"},
		{[]api.Cred{a, a, b}, "d1.a ann", "d1.a bob"},
		{[]api.Cred{a, given(1, "d1.b <- ann")}, "d1.a ann", "d1.b ann"},
		{[]api.Cred{given(1, "d1.b <- ann"), a}, "d1.b ann", "d1.a ann"},
	} {
		implied(t, x.l, 1, by(1, x.has))
		denied(t, x.l, pairOf(x.not))
	}
	implied(t, []api.Cred{a, given(1, "d2.a <- bob")}, 1, by(1, "d2.a bob"))
	implied(t, []api.Cred{b, a, given(2, "d1.a <- ann")}, 1, by(2, "d1.a ann"))
	rest := list("d2.z <- cid", "d1.a <- d1.b", "d1.b <- ann", "d1.f <- d2", "d2.b <- ann")[1:]
	for _, c := range []api.Cred{
		{},
		{ID: a.ID, Name: "a", Kind: 1, Who: "ann", A: roleOf("d1.b")},
		{ID: a.ID, Name: "a", Kind: 1, Who: "ann", B: roleOf(".b")},
		{ID: a.ID, Name: "a", Kind: 0, Who: "ann"},
		{ID: a.ID, Name: "a", Kind: 5, Who: "ann"},
		{ID: a.ID, Name: "a", Kind: -1, Who: "ann"},
		{ID: a.ID, Name: "a", Kind: 1, Who: "ann "},
		{ID: a.ID, Name: "a", Kind: 1},
		{ID: a.ID, Name: "A", Kind: 1, Who: "ann"},
		{ID: a.ID, Name: "", Kind: 1, Who: "ann"},
		{ID: api.ID{Domain: 1}, Name: "a", Kind: 1, Who: "ann"},
		{ID: api.ID{Domain: 1, Seq: -1}, Name: "a", Kind: 1, Who: "ann"},
		{ID: api.ID{Domain: 1, Seq: 4001}, Name: "a", Kind: 1, Who: "ann"},
		{ID: api.ID{Domain: 17, Seq: 1}, Name: "a", Kind: 1, Who: "ann"},
		{ID: api.ID{Seq: 1}, Name: "a", Kind: 1, Who: "ann"},
		{ID: a.ID, Name: "a", Kind: 2, Who: "ann", A: roleOf("d2.b")},
		{ID: a.ID, Name: "a", Kind: 2, A: roleOf("d2.b"), B: roleOf("d2.b")},
		{ID: a.ID, Name: "a", Kind: 2, A: roleOf(".b")},
		{ID: a.ID, Name: "a", Kind: 3, A: roleOf("d1.f"), B: roleOf(".b")},
		{ID: a.ID, Name: "a", Kind: 3, A: roleOf(".f"), B: roleOf("d2.b")},
		{ID: a.ID, Name: "a", Kind: 3, A: roleOf(".f"), B: roleOf(".b"), Who: "ann"},
		{ID: a.ID, Name: "a", Kind: 4, A: roleOf("d2.b"), B: roleOf("d2.b"), Who: "ann"},
		{ID: a.ID, Name: "a", Kind: 4, A: roleOf("d2.b")},
		{ID: a.ID, Name: "a", Kind: 4, B: roleOf("d2.b")},
	} {
		long := by(2, "d1.a ann", by(3, "d1.b ann"))
		implied(t, slices.Concat([]api.Cred{c}, rest), 2, long)
		implied(t, slices.Concat(rest, []api.Cred{c}), 2, long)
		implied(t, slices.Concat([]api.Cred{c, a}, rest), 1, by(1, "d1.a ann")) // the valid one behind it counts
		implied(t, slices.Concat([]api.Cred{c}, rest, []api.Cred{c, b, a}), 2, long)
		implied(t, slices.Concat(rest, []api.Cred{c, b, a}), 1, by(1, "d1.a bob"))
		denied(t, []api.Cred{c}, pairOf("d1.a ann"))
		denied(t, slices.Concat([]api.Cred{c}, rest), solve.Pair{Role: cred.Role(c), Who: "bob"})
	}
}

// support demands what Support returns, and that it is the union of the supports of the proofs.
func support(t *testing.T, l []api.Cred, who string, roles []api.Role, want []api.ID) {
	t.Helper()
	ids, e := chain.Support(l, who, roles)
	if e != api.OK || !slices.Equal(ids, want) {
		t.Errorf("Support of %s, %v is %v, error %d, want %v, of%s", who, roles, ids, e, want, texts(l))
	}
	var union []api.ID
	for _, role := range roles {
		p, e := chain.Find(l, who, role)
		if e != api.OK {
			t.Errorf("Find of %s, %v: error %d, of%s", who, role, e, texts(l))
		}
		union = append(union, proof.Support(p)...)
	}
	if got := ordered(union); !slices.Equal(got, want) {
		t.Errorf("the supports of the proofs of %s, %v are %v, want %v, of%s", who, roles, got, want, texts(l))
	}
}

// P8.1: the support of no roles, of one, of several that share credentials, and of one several times.
func TestSupport(t *testing.T) {
	l := []api.Cred{
		given(4, "d1.a <- d2.b"), given(2, "d1.c <- d2.b"), given(10, "d1.e <- d10.x & d2.b"), given(1, "d2.b <- ann"),
		given(3, "d10.x <- ann"), given(7, "d1.l <- d1.f.x"), given(4000, "d1.f <- d10"), given(9, "d9.m <- ann"), given(5, "d9.m <- bob"), given(6, "d9.d <- d10"),
	}
	for _, x := range []struct {
		who   string
		roles []api.Role
		want  []api.ID
	}{
		{"ann", nil, nil},
		{"ann", []api.Role{}, nil},
		{"nobody", nil, nil},
		{"", nil, nil},
		{"ann", rolesOf("d9.m"), idsOf("9 9")},
		{"bob", rolesOf("d9.m"), idsOf("9 5")},
		{"d10", rolesOf("d9.d"), idsOf("9 6")},
		{"d10", rolesOf("d1.f", "d9.d"), idsOf("1 4000", "9 6")},
		{"ann", rolesOf("d1.a"), idsOf("1 4", "2 1")},
		{"ann", rolesOf("d1.e"), idsOf("1 10", "2 1", "10 3")},
		{"ann", rolesOf("d1.l"), idsOf("1 7", "1 4000", "10 3")},
		{"ann", rolesOf("d1.a", "d1.a"), idsOf("1 4", "2 1")},
		{"ann", rolesOf("d1.a", "d2.b"), idsOf("1 4", "2 1")},
		{"ann", rolesOf("d2.b", "d1.a"), idsOf("1 4", "2 1")},
		{"ann", rolesOf("d1.a", "d1.c"), idsOf("1 2", "1 4", "2 1")},
		{"ann", rolesOf("d1.c", "d1.a"), idsOf("1 2", "1 4", "2 1")},
		{"ann", rolesOf("d9.m", "d1.l", "d1.a"), idsOf("1 4", "1 7", "1 4000", "2 1", "9 9", "10 3")},
		{"ann", rolesOf("d1.l", "d1.e", "d1.c", "d1.a"), idsOf("1 2", "1 4", "1 7", "1 10", "1 4000", "2 1", "10 3")},
		{"ann", rolesOf("d1.l", "d1.e", "d1.l", "d1.a", "d1.e", "d1.l"), idsOf("1 4", "1 7", "1 10", "1 4000", "2 1", "10 3")},
		{"ann", slices.Repeat(rolesOf("d9.m", "d10.x"), 1000), idsOf("9 9", "10 3")},
	} {
		support(t, l, x.who, x.roles, x.want)
		support(t, turned(l), x.who, x.roles, x.want)
	}
	if ids, e := chain.Support(nil, "ann", nil); e != api.OK || len(ids) != 0 {
		t.Error(ids, e)
	}
}

// P8.1, R2: where one of the roles is not implied, wherever it stands, there is ErrDenied, and no IDs.
func TestSupportDenied(t *testing.T) {
	l, _ := mixed()
	good := rolesOf("d1.top", "d1.l", "d3.c", "d5.s")
	support(t, l, "ann", good, idsOf("1 1", "1 9", "1 10", "2 2", "3 3", "3 4", "4 5", "4 6", "5 7", "6 8"))
	for _, bad := range []api.Role{roleOf("d4.x"), roleOf("d3.f"), roleOf("d1.nobody"), {}, {Owner: "d1"}, {Name: "top"}, {Owner: "d17", Name: "top"}} {
		for i := range len(good) + 1 {
			roles := slices.Insert(slices.Clone(good), i, bad)
			if ids, e := chain.Support(l, "ann", roles); e != api.ErrDenied || len(ids) != 0 {
				t.Error(roles, ids, e)
			}
		}
		if ids, e := chain.Support(l, "ann", []api.Role{bad, bad}); e != api.ErrDenied || len(ids) != 0 {
			t.Error(bad, ids, e)
		}
	}
	for _, who := range []string{"bob", "nobody", "", "d5", "d17"} {
		if ids, e := chain.Support(l, who, good); e != api.ErrDenied || len(ids) != 0 {
			t.Error(who, ids, e)
		}
	}
}

// source makes things that are always the same ones.
func source(seed uint64) *rand.Rand {
	return rand.New(rand.NewPCG(seed, 8))
}

// world is what the credentials of a list are made of.
type world struct {
	domains, roles, people []string
}

var (
	small = world{[]string{"d1", "d2"}, []string{"a", "b"}, []string{"x", "d1", "d2"}}
	wide  = world{[]string{"d1", "d2", "d10", "d16"}, []string{"a", "ab", "b", "c", "d1"}, []string{"an", "ann", "bob", "d1", "d2", "d10", "d16", "d17", "d3"}}
	deep  = world{[]string{"d2", "d10", "d3"}, []string{"a", "b", "c", "e", "f", "g", "h", "i", "j", "k"}, []string{"ann", "d2", "d3", "d10"}}
)

// some returns n credentials in no order, a few of them not effective; there is a Member among so many, on the average.
func (w world) some(r *rand.Rand, n, members int) []api.Cred {
	of := func(l []string) string { return l[r.IntN(len(l))] }
	role := func() string { return of(w.domains) + "." + of(w.roles) }
	var l []api.Cred
	for _, seq := range r.Perm(n) {
		d := of(w.domains)
		text := ""
		switch kind := r.IntN(4); {
		case r.IntN(members) == 0:
			text = of(w.people)
		case kind == 0:
			text = role()
		case kind == 1:
			text = role() + " & " + role()
		default:
			text = d + "." + of(w.roles) + "." + of(w.roles)
		}
		c := given(seq+1, d+"."+of(w.roles)+" <- "+text)
		if other := r.IntN(12); other == 0 && len(l) > 0 {
			c.ID = l[r.IntN(len(l))].ID
		} else if other == 1 {
			c.Kind += 4
		}
		l = append(l, c)
	}
	return l
}

// many calls try with many lists.
func many(try func(r *rand.Rand, w world, l []api.Cred)) {
	for seed := range uint64(100) {
		r := source(seed)
		try(r, small, small.some(r, r.IntN(12), 2))
		try(r, wide, wide.some(r, 10+r.IntN(50), 3))
		try(r, deep, deep.some(r, 40+r.IntN(40), 7))
	}
}

// all returns all pairs of a role that l gives, or another one, and of one of the people.
func (w world) all(l []api.Cred) []solve.Pair {
	var all []solve.Pair
	for _, d := range w.domains {
		for _, name := range w.roles {
			for _, who := range w.people {
				all = append(all, solve.Pair{Role: api.Role{Owner: d, Name: name}, Who: who})
			}
		}
	}
	return all
}

// words tells what the chapter's words say, by going through all credentials for all pairs again and again.
type words struct {
	creds  []api.Cred // effective ones, in the order of IDs
	rounds map[solve.Pair]int
}

// wordsOn returns what the words say of the pairs all, by the credentials l.
func wordsOn(l []api.Cred, all []solve.Pair) words {
	w := words{rounds: map[solve.Pair]int{}}
	for _, c := range l {
		if cred.May(c) && !slices.ContainsFunc(w.creds, func(b api.Cred) bool { return b.ID == c.ID }) {
			w.creds = append(w.creds, c)
		}
	}
	slices.SortFunc(w.creds, func(a, b api.Cred) int {
		return 10000*(a.ID.Domain-b.ID.Domain) + a.ID.Seq - b.ID.Seq
	})
	for n, more := 1, true; more; n++ {
		more = false
		for _, p := range all {
			if _, _, ok := w.way(p, n); ok && w.rounds[p] == 0 {
				w.rounds[p], more = n, true
			}
		}
	}
	return w
}

// way returns the first credential that derives a pair from such as have rounds less than n, and those pairs.
func (w words) way(p solve.Pair, n int) (api.ID, []solve.Pair, bool) {
	for _, c := range w.creds {
		if c.Name != p.Role.Name || "d"+strconv.Itoa(c.ID.Domain) != p.Role.Owner {
			continue
		}
		var tries [][]solve.Pair
		switch c.Kind {
		case 1:
			if c.Who == p.Who {
				return c.ID, nil, true
			}
		case 2:
			tries = [][]solve.Pair{{{Role: c.A, Who: p.Who}}}
		case 3:
			for i := 1; i <= 16; i++ {
				y := "d" + strconv.Itoa(i)
				tries = append(tries, []solve.Pair{{Role: api.Role{Owner: p.Role.Owner, Name: c.A.Name}, Who: y}, {Role: api.Role{Owner: y, Name: c.B.Name}, Who: p.Who}})
			}
		case 4:
			tries = [][]solve.Pair{{{Role: c.A, Who: p.Who}, {Role: c.B, Who: p.Who}}}
		}
		for _, parts := range tries {
			late := func(q solve.Pair) bool { return w.rounds[q] == 0 || w.rounds[q] >= n }
			if !slices.ContainsFunc(parts, late) {
				return c.ID, parts, true
			}
		}
	}
	return api.ID{}, nil, false
}

// proof returns the proof of a pair.
func (w words) proof(p solve.Pair) api.Proof {
	id, parts, _ := w.way(p, w.rounds[p])
	whole := api.Proof{Role: p.Role, Who: p.Who, Cred: id}
	for _, q := range parts {
		whole.Parts = append(whole.Parts, w.proof(q))
	}
	return whole
}

// P8.1: what the calls answer for all pairs, of many lists, is what the chapter's words say.
func TestManyLists(t *testing.T) {
	t.Parallel()
	pairs, great, most := 0, 0, 0
	many(func(r *rand.Rand, w world, l []api.Cred) {
		all := w.all(l)
		said := wordsOn(l, all)
		for _, p := range all {
			if said.rounds[p] == 0 {
				denied(t, l, p)
				continue
			}
			want := said.proof(p)
			implied(t, l, said.rounds[p], want)
			pairs, great, most = pairs+1, max(great, proof.Size(want)), max(most, said.rounds[p])
		}
		if t.Failed() {
			t.FailNow()
		}
	})
	if pairs < 4000 || great < 100 || most < 12 {
		t.Error("the lists imply little:", pairs, great, most)
	}
}

// P8.1: the support of several roles is the union of those of their proofs, of many lists.
func TestManySupports(t *testing.T) {
	t.Parallel()
	tried := 0
	many(func(r *rand.Rand, w world, l []api.Cred) {
		for range 5 {
			who := w.people[r.IntN(len(w.people))]
			var roles []api.Role
			var proofs []api.Proof
			for _, p := range solve.All(l) {
				if found, e := chain.Find(l, who, p.Role); e == api.OK && r.IntN(3) == 0 {
					roles, proofs = append(roles, p.Role), append(proofs, found)
				}
			}
			r.Shuffle(len(roles), func(i, j int) { roles[i], roles[j] = roles[j], roles[i] })
			ids, e := chain.Support(l, who, roles)
			if want := supportOf(proofs...); e != api.OK || !slices.Equal(ids, want) {
				t.Fatalf("Support of %s, %v is %v, error %d, want %v, of%s", who, roles, ids, e, want, texts(l))
			}
			if len(roles) > 1 {
				tried++
			}
			roles = slices.Insert(roles, r.IntN(len(roles)+1), roleOf("d3.none"))
			if ids, e := chain.Support(l, who, roles); e != api.ErrDenied || len(ids) != 0 {
				t.Fatalf("Support of %s, %v is %v, error %d, of%s", who, roles, ids, e, texts(l))
			}
		}
	})
	if tried < 400 {
		t.Error("few supports:", tried)
	}
}

// P8.2: just the pairs that solve says are implied have a proof, and it is correct, of itself and for its support alone.
func TestComplete(t *testing.T) {
	t.Parallel()
	many(func(r *rand.Rand, w world, l []api.Cred) {
		for _, p := range w.all(l) {
			found, e := chain.Find(l, p.Who, p.Role)
			has := solve.Has(l, p.Who, p.Role)
			if (e == api.OK) != has || !has && e != api.ErrDenied || (chain.Round(l, p.Who, p.Role) > 0) != has {
				t.Fatalf("Find of %s, %s: error %d, but Has: %v, of%s", p.Who, names.Text(p.Role), e, has, texts(l))
			}
			if !has {
				continue
			}
			if found.Role != p.Role || found.Who != p.Who || proof.Check(l, found) != api.OK {
				t.Fatalf("%s is no correct proof of %s, %s, of%s", told(found), p.Who, names.Text(p.Role), texts(l))
			}
			ids, _ := chain.Support(l, p.Who, []api.Role{p.Role})
			alone := slices.DeleteFunc(cred.Counts(l), func(c api.Cred) bool { return !slices.Contains(ids, c.ID) })
			if again, e := chain.Find(alone, p.Who, p.Role); e != api.OK || told(again) != told(found) {
				t.Fatalf("%s is not found for its support alone, but %s, of%s", told(found), told(again), texts(alone))
			}
		}
	})
}

// P8.1, P8.3: the depth of a proof is its round less 1, each of its Parts is the proof of its own pair with an earlier round.
func TestDepth(t *testing.T) {
	t.Parallel()
	many(func(r *rand.Rand, w world, l []api.Cred) {
		for _, p := range w.all(l) {
			found, e := chain.Find(l, p.Who, p.Role)
			if e != api.OK {
				continue
			}
			n := chain.Round(l, p.Who, p.Role)
			if levels(found) != n-1 || !proof.Within(found, n-1) || proof.Within(found, n-2) {
				t.Fatalf("the round is %d, of %s, of%s", n, told(found), texts(l))
			}
			for _, part := range found.Parts {
				own, e := chain.Find(l, part.Who, part.Role)
				if m := chain.Round(l, part.Who, part.Role); e != api.OK || told(own) != told(part) || m < 1 || m >= n {
					t.Fatalf("%s, of round %d, is not the proof of its pair, in %s of round %d, of%s", told(part), m, told(found), n, texts(l))
				}
			}
		}
	})
}

// P8.3: no correct proof of a pair has a smaller depth than its own: all there are of each depth are tried.
func TestShortest(t *testing.T) {
	t.Parallel()
	tried, most := 0, 0
	for seed := range uint64(250) {
		r := source(seed)
		l := small.some(r, 4+r.IntN(8), 2)
		w := small
		if seed%2 == 1 {
			w = world{[]string{"d2", "d10"}, []string{"a", "b", "c", "e", "f"}, []string{"ann", "d10"}}
			l = w.some(r, 16+r.IntN(8), 7)
		}
		found := map[solve.Pair]api.Proof{} // correct ones of the depths that were tried, one of each pair
		for depth := 0; ; depth++ {
			more := shallow(l, w.people, found)
			for p, x := range more {
				if n := chain.Round(l, p.Who, p.Role); n != depth+1 {
					t.Fatalf("the round of %s, %s is %d, but %s is correct, of%s", p.Who, names.Text(p.Role), n, told(x), texts(l))
				}
				found[p] = x
				tried, most = tried+1, max(most, depth)
			}
			if len(more) == 0 {
				break
			}
		}
		for _, p := range solve.All(l) {
			if _, ok := found[p]; !ok {
				t.Fatalf("%s, %s is implied, but has no proof of any depth, of%s", p.Who, names.Text(p.Role), texts(l))
			}
		}
	}
	if tried < 900 || most < 5 {
		t.Error("few proofs:", tried, most)
	}
}

// shallow returns correct proofs, of pairs that none is found of yet, whose Parts are among those that are found.
// Whether a proof is correct hangs on the pairs of its Parts alone, once these are correct.
func shallow(l []api.Cred, people []string, found map[solve.Pair]api.Proof) map[solve.Pair]api.Proof {
	var parts [][]api.Proof
	parts = append(parts, nil)
	for _, a := range found {
		parts = append(parts, []api.Proof{a})
		for _, b := range found {
			parts = append(parts, []api.Proof{a, b})
		}
	}
	more := map[solve.Pair]api.Proof{}
	for _, c := range l {
		for _, who := range people {
			p := solve.Pair{Role: cred.Role(c), Who: who}
			if _, ok := found[p]; ok {
				continue
			}
			for _, x := range parts {
				if a := (api.Proof{Role: p.Role, Who: who, Cred: c.ID, Parts: x}); proof.Check(l, a) == api.OK {
					more[p] = a
					break
				}
			}
		}
	}
	return more
}

// P8.1, R5: the order in which credentials with different IDs are handed in makes no difference.
func TestOtherOrders(t *testing.T) {
	t.Parallel()
	many(func(r *rand.Rand, w world, l []api.Cred) {
		l = cred.Counts(l)
		all := w.all(l)
		for range 3 {
			p := all[r.IntN(len(all))]
			found, e := chain.Find(l, p.Who, p.Role)
			n := chain.Round(l, p.Who, p.Role)
			ids, f := chain.Support(l, p.Who, []api.Role{p.Role})
			for range 4 {
				mixed := slices.Clone(l)
				r.Shuffle(len(mixed), func(i, j int) { mixed[i], mixed[j] = mixed[j], mixed[i] })
				if got, again := chain.Find(mixed, p.Who, p.Role); again != e || told(got) != told(found) {
					t.Fatalf("Find of %s, %s is %s, and %s of%s", p.Who, names.Text(p.Role), told(found), told(got), texts(mixed))
				}
				if got := chain.Round(mixed, p.Who, p.Role); got != n {
					t.Fatalf("Round of %s, %s is %d, and %d of%s", p.Who, names.Text(p.Role), n, got, texts(mixed))
				}
				if got, again := chain.Support(mixed, p.Who, []api.Role{p.Role}); again != f || !slices.Equal(got, ids) {
					t.Fatalf("Support of %s, %s is %v, and %v of%s", p.Who, names.Text(p.Role), ids, got, texts(mixed))
				}
			}
		}
	})
}

// P8.1: credentials behind a list that have its IDs, or are not valid, make no difference.
func TestMoreBehind(t *testing.T) {
	t.Parallel()
	many(func(r *rand.Rand, w world, l []api.Cred) {
		l = cred.Counts(l)
		more := w.some(r, 5, 2)
		for i := range more {
			if len(l) == 0 || r.IntN(2) == 0 {
				more[i].ID.Seq += 4000
			} else {
				more[i].ID = l[r.IntN(len(l))].ID
			}
		}
		all := w.all(l)
		for range 20 {
			p := all[r.IntN(len(all))]
			found, e := chain.Find(l, p.Who, p.Role)
			if got, again := chain.Find(slices.Concat(l, more), p.Who, p.Role); again != e || told(got) != told(found) {
				t.Fatalf("Find of %s, %s is %s, but with%s\nbehind it %s", p.Who, names.Text(p.Role), told(found), texts(more), told(got))
			}
		}
	})
}

// word returns the name with a number: w0, w1, ..
func word(i int) string {
	return "w" + strconv.Itoa(i)
}

// P8.1, P8.3, R1: long chains of each kind.
func TestLongChains(t *testing.T) {
	const n = 3000
	role := func(i int) string { return "d1." + word(i) }
	for kind, x := range map[string]struct {
		who  string
		text func(i int) string
		size int
	}{
		"Include":     {"ann", func(i int) string { return role(i) + " <- " + role(i-1) }, n},
		"Both first":  {"ann", func(i int) string { return role(i) + " <- " + role(i-1) + " & " + role(0) }, 2*n - 1},
		"Both second": {"ann", func(i int) string { return role(i) + " <- " + role(0) + " & " + role(i-1) }, 2*n - 1},
		"Link own":    {"d1", func(i int) string { return role(i) + " <- d1." + word(i-1) + ".back" }, 2*n - 1},
		"Link other":  {"ann", func(i int) string { return role(i) + " <- d1.x." + word(i-1) }, 2*n - 1},
	} {
		texts := []string{role(0) + " <- " + x.who, "d1.x <- d1", "d1.back <- d1"}
		for i := 1; i < n; i++ {
			texts = append(texts, x.text(i))
		}
		texts = append(texts, role(0)+" <- "+role(n-1)) // and back to the beginning, which changes nothing
		for _, l := range [][]api.Cred{list(texts...), turned(list(texts...))} {
			last := roleOf(role(n - 1))
			p, e := chain.Find(l, x.who, last)
			if e != api.OK || proof.Size(p) != x.size || !proof.Within(p, n-1) || proof.Within(p, n-2) || proof.Check(l, p) != api.OK {
				t.Error(kind, e, proof.Size(p))
			}
			if got := chain.Round(l, x.who, last); got != n {
				t.Error(kind, got)
			}
			if got := chain.Round(l, x.who, roleOf(role(n/2))); got != n/2+1 {
				t.Error(kind, got)
			}
			ids, e := chain.Support(l, x.who, []api.Role{last, roleOf(role(7))})
			if want := supportOf(p); e != api.OK || !slices.Equal(ids, want) || len(ids) < n {
				t.Error(kind, e, len(ids), len(want))
			}
			denied(t, l[:2], solve.Pair{Role: last, Who: x.who})
			if _, e := chain.Find(l[1:len(l)-1], x.who, last); e != api.ErrDenied {
				t.Error(kind, "without its ends:", e)
			}
		}
	}
}

// P8.1, R1: Round and Support answer where a proof would be greater than anything, as few pairs are in it again and again.
func TestDoubled(t *testing.T) {
	const n = 3000
	texts := []string{"d1.w0 <- ann"}
	for i := 1; i < n; i++ {
		texts = append(texts, "d1."+word(i)+" <- d1."+word(i-1)+" & d1."+word(i-1))
	}
	l := list(texts...)
	if got := chain.Round(l, "ann", roleOf("d1."+word(n-1))); got != n {
		t.Error(got)
	}
	ids, e := chain.Support(l, "ann", rolesOf("d1."+word(n-1), "d1."+word(n-2)))
	if e != api.OK || len(ids) != n || ids[0] != (api.ID{Domain: 1, Seq: 1}) || ids[n-1] != (api.ID{Domain: 1, Seq: n}) {
		t.Error(len(ids), e)
	}
	p, e := chain.Find(l, "ann", roleOf("d1.w16"))
	if e != api.OK || proof.Size(p) != 1<<17-1 || !proof.Within(p, 16) || proof.Within(p, 15) || proof.Check(l, p) != api.OK {
		t.Error(e, proof.Size(p))
	}
	if ids, e := chain.Support(l, "bob", rolesOf("d1."+word(n-1))); e != api.ErrDenied || ids != nil {
		t.Error(ids, e)
	}
}

// ladder returns as many credentials as there may be, and a role. They lead from d1.w0, one by one, to that role, and
// whoever has that is one of the domains by which the Link of d1.w0 goes: by d16, d15 has it, by that d14, and so on to ann.
func ladder() ([]api.Cred, api.Role) {
	var l []api.Cred
	next := map[string]int{}
	give := func(text string) {
		owner, _, _ := strings.Cut(text, ".")
		next[owner]++
		l = append(l, given(next[owner], text))
	}
	give("d1.w0 <- d1.f.s")
	give("d1.f <- d16")
	give("d1.s <- ann")
	for n := 16; n > 1; n-- {
		give(names.Domain(n) + ".s <- " + names.Domain(n-1))
	}
	last := "d1.w0"
	for n := 16; n >= 1; n-- {
		for i := next[names.Domain(n)] + 1; i < 4000; i++ {
			role := names.Domain(n) + "." + word(i)
			give(role + " <- " + last)
			last = role
		}
	}
	give("d1.f <- " + last)
	return l, roleOf(last)
}

// P8.1, P8.3, R1: a proof of a million levels, for which no stack has room.
func TestMillionLevels(t *testing.T) {
	t.Parallel()
	l, last := ladder()
	steps := len(l) - 19  // Includes from the first role to the last
	n := 16 * (steps + 2) // and for each domain, d16 aside, and ann: the Link by the domain ahead, and the Include by which that one is found
	if got := chain.Round(l, "ann", last); got != n || n < 1000000 {
		t.Fatal(got, n)
	}
	ids, e := chain.Support(l, "ann", []api.Role{last})
	if e != api.OK || len(ids) != len(l) {
		t.Error(e, len(ids), len(l))
	}
	p, e := chain.Find(l, "ann", last)
	if e != api.OK {
		t.Fatal(e)
	}
	levels, links := 0, 0
	for at := &p; ; levels++ {
		if at.Cred.Domain != names.Number(at.Role.Owner) || levels < steps && at.Who != "ann" {
			t.Fatal("level", levels, at.Role, at.Who, at.Cred)
		}
		if len(at.Parts) == 2 {
			links++
		} else if len(at.Parts) == 0 {
			break
		}
		at = &at.Parts[0]
	}
	if levels != n-1 || links != 16 {
		t.Error(levels, n, links)
	}
}

// great returns as many credentials as there may be: 32000 names have a role, and 32000 roles include it.
func great() []api.Cred {
	var l []api.Cred
	for d := 1; d <= 16; d++ {
		for i := 1; i < 4000; i++ {
			c := api.Cred{ID: api.ID{Domain: d, Seq: i}, Name: "a", Kind: api.Member, Who: "p" + strconv.Itoa(10000*d+i)}
			if d > 8 {
				c = api.Cred{ID: c.ID, Name: word(i), Kind: api.Include, A: api.Role{Owner: "d8", Name: "a"}}
			}
			l = append(l, c)
		}
		if 1 < d && d <= 8 {
			l = append(l, given(4000, names.Domain(d)+".a <- "+names.Domain(d-1)+".a"))
		}
	}
	return l
}

// R1, P8.1: the calls answer also of a list that implies more pairs than anybody could hold.
func TestGreatList(t *testing.T) {
	l := great()
	for _, x := range []struct {
		pair  string
		round int
	}{{"d1.a p10001", 1}, {"d8.a p10001", 8}, {"d9.w1 p10001", 9}, {"d16.w3999 p80001", 2}, {"d16.w3999 p83999", 2}, {"d9.w1 p10000", 0}, {"d7.a p80001", 0}, {"d9.a p80001", 0}} {
		p := pairOf(x.pair)
		found, e := chain.Find(l, p.Who, p.Role)
		if got := chain.Round(l, p.Who, p.Role); got != x.round || (e == api.OK) != (x.round > 0) || x.round > 0 && levels(found) != x.round-1 {
			t.Error(x.pair, got, e, told(found))
		}
		ids, e := chain.Support(l, p.Who, []api.Role{p.Role})
		if (e == api.OK) != (x.round > 0) || len(ids) != x.round {
			t.Error(x.pair, ids, e)
		}
	}
}

// R1: no list and no argument makes a call panic or go on for ever, also where nothing in it is as it should be.
func TestExtremes(t *testing.T) {
	long := strings.Repeat("d1.a", 1<<16)
	words := []string{"", "a", "d1", "d17", "\x00\xff", "é", long}
	var l []api.Cred
	for _, n := range []int{0, 1, -1, 2, 3, 4, 5, 16, 17, 4000, 4001, math.MaxInt, math.MinInt} {
		for _, s := range words {
			l = append(l,
				api.Cred{ID: api.ID{Domain: n, Seq: n}, Name: s, Kind: n, Who: s, A: api.Role{Owner: s, Name: s}, B: api.Role{Owner: s, Name: s}},
				api.Cred{ID: api.ID{Domain: n, Seq: 1}, Name: s, Kind: 1, Who: s},
				api.Cred{ID: api.ID{Domain: 1, Seq: n}, Name: "a", Kind: n, A: api.Role{Name: s}, B: api.Role{Name: s}},
				api.Cred{ID: api.ID{Domain: 2, Seq: n}, Name: "a", Kind: n, A: api.Role{Owner: "d1", Name: s}, B: api.Role{Owner: "d1", Name: s}},
			)
		}
	}
	var roles []api.Role
	for _, owner := range words {
		for _, name := range words {
			roles = append(roles, api.Role{Owner: owner, Name: name})
		}
	}
	found := 0
	for _, who := range words {
		for _, role := range roles {
			p, e := chain.Find(l, who, role)
			n := chain.Round(l, who, role)
			ids, f := chain.Support(l, who, []api.Role{role})
			has := solve.Has(l, who, role)
			if (e == api.OK) != has || (n > 0) != has || f != e || has && (proof.Check(l, p) != api.OK || levels(p) != n-1) || !slices.Equal(ids, supportOf(p)) && has {
				t.Errorf("%.20q %.20q: %d, %d, %v", who, names.Text(role), e, n, ids)
			}
			if !has && (e != api.ErrDenied || n != 0 || len(ids) != 0 || told(p) != told(api.Proof{})) {
				t.Errorf("%.20q %.20q: %d, %d, %v, %.100s", who, names.Text(role), e, n, ids, told(p))
			}
			if has {
				found++
			}
			denied(t, nil, solve.Pair{Role: role, Who: who})
		}
		if ids, e := chain.Support(l, who, roles); e != api.ErrDenied || len(ids) != 0 {
			t.Errorf("%.20q: %d, %v", who, e, ids)
		}
	}
	if found == 0 {
		t.Error("nothing is implied")
	}
}

// places returns where all Parts in p lie, at all depths.
func places(p *api.Proof) []*api.Proof {
	var all []*api.Proof
	for i := range p.Parts {
		all = append(append(all, &p.Parts[i]), places(&p.Parts[i])...)
	}
	return all
}

// R4: what is handed in is not changed, also not behind its ends; nil and empty lists are equivalent.
func TestArguments(t *testing.T) {
	t.Parallel()
	if _, e := chain.Find([]api.Cred{}, "", api.Role{}); e != api.ErrDenied || chain.Round([]api.Cred{}, "", api.Role{}) != 0 {
		t.Error("an empty list")
	}
	if ids, e := chain.Support([]api.Cred{}, "", []api.Role{}); e != api.OK || len(ids) != 0 {
		t.Error("empty lists", ids, e)
	}
	many(func(r *rand.Rand, w world, l []api.Cred) {
		room := slices.Concat(l, w.some(r, 5, 2))
		before := slices.Clone(room)
		pairs := w.all(l)
		r.Shuffle(len(pairs), func(i, j int) { pairs[i], pairs[j] = pairs[j], pairs[i] })
		var roles []api.Role
		for _, p := range pairs[:min(5, len(pairs))] {
			roles = append(roles, p.Role)
			chain.Find(room[:len(l)], p.Who, p.Role)
			chain.Round(room[:len(l)], p.Who, p.Role)
			asked := slices.Clone(roles)
			chain.Support(room[:len(l)], p.Who, roles[:len(roles)/2+1])
			if !slices.Equal(roles, asked) {
				t.Fatal("the roles were changed:", roles, asked)
			}
		}
		if !slices.Equal(room, before) {
			t.Fatal("the list was changed:" + texts(before) + texts(room))
		}
	})
}

// R4: what is told is new memory, at every depth: changing anything in it changes nothing else in it, no list that was
// handed in, and no other answer.
func TestResults(t *testing.T) {
	t.Parallel()
	try := func(l []api.Cred, who string, role api.Role) int {
		before := slices.Clone(l)
		roles := []api.Role{role}
		p, _ := chain.Find(l, who, role)
		other, _ := chain.Find(l, who, role)
		ids, _ := chain.Support(l, who, roles)
		more, _ := chain.Support(l, who, roles)
		text, want := told(p), slices.Clone(ids)
		all := places(&p)
		for i, x := range all {
			was := *x
			*x = by(77, "d9.changed nobody")
			for _, y := range all[:i] {
				if y.Who == "nobody" {
					t.Fatal("two Parts lie in one place: " + text)
				}
			}
			*x = was
			x.Parts = append(x.Parts, api.Proof{Who: "behind"})[:len(x.Parts)]
		}
		if told(p) != text {
			t.Fatal("Parts share what lies behind their ends: " + text + told(p))
		}
		for _, x := range all {
			x.Role, x.Who, x.Cred = api.Role{}, "changed", api.ID{}
		}
		for i := range ids {
			ids[i] = api.ID{Domain: -5}
		}
		clear(ids[len(ids):cap(ids)])
		again, _ := chain.Find(l, who, role)
		same, _ := chain.Support(l, who, roles)
		if told(other) != text || told(again) != text || !slices.Equal(more, want) || !slices.Equal(same, want) || !slices.Equal(l, before) || roles[0] != role {
			t.Fatal("a result shares memory with something else: " + text)
		}
		return len(all)
	}
	l, p := mixed()
	if try(l, p.Who, p.Role) != proof.Size(p)-1 {
		t.Error("Parts are missing")
	}
	double := list("d1.a <- ann", "d1.b <- d1.a & d1.a", "d1.c <- d1.b & d1.b", "d1.e <- d1.c & d1.c")
	if n := try(double, "ann", roleOf("d1.e")); n != 14 {
		t.Error(n)
	}
	parts := 0
	many(func(r *rand.Rand, w world, l []api.Cred) {
		all := w.all(l)
		for range 5 {
			x := all[r.IntN(len(all))]
			parts += try(l, x.Who, x.Role)
		}
	})
	if parts < 700 {
		t.Error("few Parts:", parts)
	}
}

// R4, R5: nothing is kept: what is changed in a list afterwards changes no answer that was given, and the next one as if it were the first.
func TestNothingKept(t *testing.T) {
	l, p := mixed()
	role := roleOf("d1.top")
	found, _ := chain.Find(l, "ann", role)
	ids, _ := chain.Support(l, "ann", []api.Role{role})
	want := slices.Clone(ids)
	c := l[7]
	l[7] = given(8, "d6.t <- eve")
	if told(found) != told(p) || !slices.Equal(ids, want) {
		t.Error(told(found), ids)
	}
	denied(t, l, pairOf("d1.top ann"))
	if got := chain.Round(l, "eve", role); got != 6 {
		t.Error(got)
	}
	l[7] = c
	implied(t, l, 6, p)
	denied(t, l, pairOf("d1.top eve"))
}

// R5: the same call answers the same each time, from whichever goroutine.
func TestAgain(t *testing.T) {
	l := wide.some(source(1), 150, 4)
	pairs := solve.All(l)
	said := wordsOn(l, pairs)
	var roles []api.Role
	var want []api.ID
	for _, p := range pairs {
		if p.Who == "ann" {
			roles = append(roles, p.Role)
			want = append(want, supportOf(said.proof(p))...)
		}
	}
	want = ordered(want)
	if len(pairs) < 50 || len(roles) < 5 || len(want) < 8 {
		t.Fatal("few pairs:", len(pairs), len(roles), want)
	}
	var group sync.WaitGroup
	for range 8 {
		group.Go(func() {
			for range 3 {
				for _, p := range pairs {
					if got, e := chain.Find(l, p.Who, p.Role); e != api.OK || told(got) != told(said.proof(p)) {
						t.Error("Find answers otherwise")
					}
					if chain.Round(l, p.Who, p.Role) != said.rounds[p] {
						t.Error("Round answers otherwise")
					}
				}
				if got, e := chain.Support(l, "ann", roles); e != api.OK || !slices.Equal(got, want) {
					t.Error("Support answers otherwise")
				}
			}
		})
	}
	group.Wait()
}
