package token_test

import (
	"math"
	"slices"
	"strings"
	"testing"

	"livery/api"
	"livery/token"
)

// tick is the tick as which a number counts.
func tick(n int) int {
	switch {
	case n < 0:
		return 0
	case n > greatest:
		return greatest
	}
	return n
}

// rolesOf are the effective roles of any token.
func rolesOf(t api.Token) []api.Role {
	var l []api.Role
	for _, r := range t.Roles {
		kept := true
		for _, c := range t.Caveats {
			if c.Kind != 1 {
				continue
			}
			occurs := false
			for _, x := range c.Roles {
				occurs = occurs || x.Owner == r.Owner && x.Name == r.Name
			}
			kept = kept && occurs
		}
		if kept {
			l = append(l, r)
		}
	}
	return l
}

// untilOf is the end of any token.
func untilOf(t api.Token) int {
	end := tick(t.Until)
	for _, c := range t.Caveats {
		if c.Kind == 2 && tick(c.Until) < end {
			end = tick(c.Until)
		}
	}
	return end
}

// allowsOf is Allows, as the chapter has it.
func allowsOf(t api.Token, role api.Role, aud string, now int) api.Errno {
	if tick(now) >= untilOf(t) || tick(now) == greatest {
		return api.ErrExpired
	}
	if slices.Index(rolesOf(t), role) < 0 {
		return api.ErrRole
	}
	for _, c := range t.Caveats {
		if c.Kind == 3 && c.Aud != aud {
			return api.ErrAudience
		}
	}
	return api.OK
}

// P12.2: the chapter's examples.
func TestAllowsExamples(t *testing.T) {
	x, _ := token.Mint([]byte("k"), example())
	a, b := roleOf(1, "a"), roleOf(1, "b")
	y, _ := token.Narrow(x, cutRoles(b))
	if got := token.Roles(y); !slices.Equal(got, []api.Role{b}) || token.Allows(y, a, "x", 0) != api.ErrRole || token.Allows(y, b, "x", 0) != api.OK {
		t.Error(got, token.Allows(y, a, "x", 0))
	}
	z, _ := token.Narrow(y, cutUntil(30))
	if token.Until(z) != 30 || token.Allows(z, b, "x", 29) != api.OK || token.Allows(z, b, "x", 30) != api.ErrExpired || token.Allows(z, b, "x", 31) != api.ErrExpired {
		t.Error(token.Until(z), token.Allows(z, b, "x", 29), token.Allows(z, b, "x", 30))
	}
	if token.Until(y) != 40 || token.Allows(y, b, "x", 39) != api.OK || token.Allows(y, b, "x", 40) != api.ErrExpired {
		t.Error(token.Until(y))
	}
	w, _ := token.Narrow(x, cutFor("d2"))
	if token.Allows(w, a, "d2", 39) != api.OK || token.Allows(w, a, "d3", 39) != api.ErrAudience || token.Allows(w, a, "", 39) != api.ErrAudience {
		t.Error(token.Allows(w, a, "d2", 39), token.Allows(w, a, "d3", 39))
	}
}

// P12.2: the effective roles of tokens that are valid and that are not: roles twice, out of order, and such as are none; caveats of no kind.
func TestRolesExamples(t *testing.T) {
	a, b, c, none := roleOf(1, "a"), roleOf(1, "b"), roleOf(2, "a"), api.Role{Owner: "x", Name: "Y"}
	type roles = []api.Role
	for i, x := range []struct {
		roles   roles
		caveats []api.Caveat
		want    roles
	}{
		{nil, nil, nil}, {nil, []api.Caveat{cutRoles(a)}, nil}, {roles{a}, nil, roles{a}}, {roles{a, b, c}, nil, roles{a, b, c}},
		{roles{a, b, c}, []api.Caveat{cutRoles()}, nil}, {roles{a, b, c}, []api.Caveat{cutRoles(c)}, roles{c}}, {roles{a, b, c}, []api.Caveat{cutRoles(a, c)}, roles{a, c}}, {roles{a}, []api.Caveat{cutRoles(a, b, c)}, roles{a}}, {roles{a}, []api.Caveat{cutRoles(b, c)}, nil},
		{roles{a, b, c}, []api.Caveat{cutRoles(a, b), cutRoles(b, c)}, roles{b}}, {roles{a, b, c}, []api.Caveat{cutRoles(a), cutRoles(c)}, nil}, {roles{a, b, c}, []api.Caveat{cutRoles(a, b, c), cutFor("x"), cutRoles(a, c), cutUntil(3), cutRoles(a, b)}, roles{a}}, {roles{a, b}, []api.Caveat{cutRoles(a), cutRoles(a)}, roles{a}},
		// caveats of other kinds don't count, whatever they have
		{roles{a, b}, []api.Caveat{cutUntil(0), cutFor("a")}, roles{a, b}}, {roles{a, b}, []api.Caveat{{Kind: 2, Roles: roles{c}}, {Kind: 3, Roles: roles{b}}, {Kind: 0, Roles: roles{b}}, {Kind: 4}, {Kind: -1, Roles: roles{a}}, {Kind: 257}}, roles{a, b}}, {roles{a, b}, []api.Caveat{{Kind: 1, Roles: roles{b}, Until: -1, Aud: "x"}}, roles{b}},
		// out of order, and twice
		{roles{c, b, a}, nil, roles{c, b, a}}, {roles{c, b, a}, []api.Caveat{cutRoles(a, c)}, roles{c, a}}, {roles{b, a, b}, nil, roles{b, a, b}}, {roles{b, a, b}, []api.Caveat{cutRoles(b)}, roles{b, b}}, {roles{a, a}, []api.Caveat{cutRoles(a, a, b)}, roles{a, a}}, {roles{a, b}, []api.Caveat{cutRoles(b, a, b, a)}, roles{a, b}}, {roles{a, c, a, b}, []api.Caveat{cutRoles(b, a)}, roles{a, a, b}},
		// no roles
		{roles{none, a, {}}, nil, roles{none, a, {}}}, {roles{none, a, {}}, []api.Caveat{cutRoles(none)}, roles{none}}, {roles{none, {}, a}, []api.Caveat{cutRoles(api.Role{})}, roles{{}}}, {roles{a}, []api.Caveat{cutRoles(api.Role{Owner: "d1"}, api.Role{Name: "a"}, api.Role{Owner: "D1", Name: "a"}, api.Role{Owner: "d1", Name: "A"}, api.Role{Owner: "d1.", Name: "a"})}, nil},
		{manyRoles(80), []api.Caveat{cutRoles(manyRoles(70)...), cutRoles(manyRoles(80)[60:]...)}, manyRoles(70)[60:]},
	} {
		y := api.Token{Roles: x.roles, Caveats: x.caveats}
		if got := token.Roles(y); !slices.Equal(got, x.want) {
			t.Errorf("%d: Roles of %v with %v = %v, want %v", i, x.roles, x.caveats, got, x.want)
		}
		for _, r := range append(manyRoles(80), a, b, c, none, api.Role{}) {
			y.Until = 5
			y.Caveats = slices.DeleteFunc(slices.Clone(x.caveats), func(c api.Caveat) bool { return c.Kind == 2 || c.Kind == 3 })
			want := api.OK
			if !slices.Contains(x.want, r) {
				want = api.ErrRole
			}
			if got := token.Allows(y, r, "x", 4); got != want {
				t.Errorf("%d: Allows of %v = %v, want %v", i, r, got, want)
			}
		}
	}
}

// ticksAndOthers are numbers about the ends of ticks, and of int.
func ticksAndOthers() []int {
	return []int{math.MinInt, math.MinInt + 1, -greatest, -1, 0, 1, 2, 29, 30, 31, 39, 40, 41, 1 << 32, greatest - 2, greatest - 1, greatest, greatest + 1, 1 << 62, math.MaxInt - 1, math.MaxInt}
}

// P12.2: the end of tokens, valid or not, with none, one and two caveats that change it.
func TestUntil(t *testing.T) {
	for _, n := range ticksAndOthers() {
		if got := token.Until(api.Token{Until: n}); got != tick(n) {
			t.Errorf("Until of %d = %d", n, got)
		}
		others := []api.Caveat{{Kind: 1, Until: -3}, {Kind: 3, Until: 1}, {Kind: 0, Until: -1}, {Kind: 4, Until: 2}, {Kind: -2, Until: 2}, {Kind: 258, Until: 2}}
		if got := token.Until(api.Token{Until: n, Caveats: others}); got != tick(n) {
			t.Errorf("Until of %d with caveats of other kinds = %d", n, got)
		}
		for _, m := range ticksAndOthers() {
			want := min(tick(n), tick(m))
			if got := token.Until(api.Token{Until: n, Caveats: []api.Caveat{cutUntil(m)}}); got != want {
				t.Errorf("Until of %d, cut at %d = %d", n, m, got)
			}
			for _, k := range ticksAndOthers() {
				x := api.Token{Until: n, Caveats: []api.Caveat{cutUntil(m), {Kind: 1, Until: -9}, {Kind: 2, Until: k, Aud: "x", Roles: manyRoles(5)}, cutFor("x")}}
				if got := token.Until(x); got != min(want, tick(k)) {
					t.Errorf("Until of %d, cut at %d and %d = %d", n, m, k, got)
				}
			}
		}
	}
}

// P12.2: Allows at the tick before the end, at it and behind it, at the ends of ticks, and of int.
func TestAllowsAtTheEnd(t *testing.T) {
	a := roleOf(1, "a")
	for _, n := range ticksAndOthers() {
		for _, l := range [][]api.Caveat{nil, {cutUntil(30)}, {cutUntil(greatest)}, {cutUntil(40), cutUntil(2)}, {cutUntil(-1)}, {cutUntil(math.MaxInt)}, {{Kind: 4, Until: 1}}} {
			x := api.Token{Roles: []api.Role{a}, Until: n, Caveats: l}
			end := untilOf(x)
			for _, now := range append(ticksAndOthers(), end-1, end, end+1) {
				want := api.OK
				if tick(now) >= end { // also at the end of the clock, as no end is behind it
					want = api.ErrExpired
				}
				if got := token.Allows(x, a, "d1", now); got != want {
					t.Fatalf("Allows of %+v at %d = %v, want %v", x, now, got, want)
				}
			}
		}
	}
}

// P12.2: for whom a token is, with none, one and several caveats that say it.
func TestAllowsAudience(t *testing.T) {
	a := roleOf(1, "a")
	for i, x := range []struct {
		caveats []api.Caveat
		aud     string
		want    api.Errno
	}{
		{nil, "d2", api.OK}, {nil, "", api.OK}, {nil, "No Name", api.OK},
		{[]api.Caveat{cutFor("d2")}, "d2", api.OK}, {[]api.Caveat{cutFor("d2")}, "d3", api.ErrAudience}, {[]api.Caveat{cutFor("d2")}, "", api.ErrAudience}, {[]api.Caveat{cutFor("d2")}, "d2 ", api.ErrAudience}, {[]api.Caveat{cutFor("d2")}, "D2", api.ErrAudience}, {[]api.Caveat{cutFor("d2")}, "d", api.ErrAudience}, {[]api.Caveat{cutFor("d2")}, "d22", api.ErrAudience},
		{[]api.Caveat{cutFor("d2"), cutFor("d2")}, "d2", api.OK}, {[]api.Caveat{cutFor("d2"), cutFor("d3")}, "d2", api.ErrAudience}, {[]api.Caveat{cutFor("d2"), cutFor("d3")}, "d3", api.ErrAudience}, {[]api.Caveat{cutFor("d2"), cutFor("d3")}, "d4", api.ErrAudience}, {[]api.Caveat{cutFor("d2"), cutUntil(9), cutFor("d2"), cutRoles(a), cutFor("d3")}, "d2", api.ErrAudience},
		{[]api.Caveat{{Kind: 3}}, "", api.OK}, {[]api.Caveat{{Kind: 3}}, "d2", api.ErrAudience}, {[]api.Caveat{cutFor("No Name")}, "No Name", api.OK}, {[]api.Caveat{{Kind: 3, Aud: "d2", Until: -1, Roles: manyRoles(5)}}, "d2", api.OK},
		{[]api.Caveat{{Kind: 1, Roles: []api.Role{a}, Aud: "d3"}, {Kind: 2, Until: 9, Aud: "d3"}, {Kind: 0, Aud: "d3"}, {Kind: 4, Aud: "d3"}, {Kind: -3, Aud: "d3"}, {Kind: 259, Aud: "d3"}}, "d2", api.OK},
	} {
		y := api.Token{Roles: []api.Role{a}, Until: 9, Caveats: x.caveats}
		if got := token.Allows(y, a, x.aud, 8); got != x.want {
			t.Errorf("%d: Allows of %+v by %q = %v, want %v", i, y, x.aud, got, x.want)
		}
	}
}

// P12.2: the order of the errors of Allows.
func TestAllowsErrorOrder(t *testing.T) {
	x := api.Token{Roles: []api.Role{roleOf(1, "a")}, Until: 9, Caveats: []api.Caveat{cutFor("d2"), cutRoles(roleOf(1, "a"), roleOf(1, "b"))}}
	for _, now := range []int{8, 9} {
		for _, name := range []string{"a", "b"} {
			for _, aud := range []string{"d2", "d3"} {
				want := api.OK
				switch {
				case now == 9:
					want = api.ErrExpired
				case name == "b":
					want = api.ErrRole
				case aud == "d3":
					want = api.ErrAudience
				}
				if got := token.Allows(x, roleOf(1, name), aud, now); got != want {
					t.Errorf("Allows of %s by %s at %d = %v, want %v", name, aud, now, got, want)
				}
			}
		}
	}
	if got := token.Allows(api.Token{}, api.Role{}, "", 0); got != api.ErrExpired {
		t.Error(got)
	}
}

// P12.2: all sorts of tokens, valid or not, against the chapter's words.
func TestAllowsMany(t *testing.T) {
	m := newMixer(2)
	count := map[api.Errno]int{}
	for range 8000 {
		x := m.mixture(100)
		if m.Intn(2) == 0 {
			x.Until = pick(m, ticksAndOthers())
		}
		if m.Intn(4) == 0 {
			x.Caveats = append(x.Caveats, api.Caveat{Kind: m.Intn(6) - 1, Roles: m.roles(m.Intn(5)), Until: pick(m, ticksAndOthers()), Aud: pick(m, someNames)})
		}
		if got, want := token.Roles(x), rolesOf(x); !slices.Equal(got, want) {
			t.Fatalf("Roles of %+v = %v, want %v", x, got, want)
		}
		if got, want := token.Until(x), untilOf(x); got != want {
			t.Fatalf("Until of %+v = %d, want %d", x, got, want)
		}
		for _, role := range slices.Concat(m.few, x.Roles) {
			aud := pick(m, []string{"d2", pick(m, someNames)})
			now := pick(m, append(ticksAndOthers(), untilOf(x)-1, untilOf(x), 0, 0, 0, 0))
			got, want := token.Allows(x, role, aud, now), allowsOf(x, role, aud, now)
			if got != want {
				t.Fatalf("Allows(%+v, %v, %q, %d) = %v, want %v", x, role, aud, now, got, want)
			}
			count[got]++
		}
	}
	for _, e := range []api.Errno{api.OK, api.ErrExpired, api.ErrRole, api.ErrAudience} {
		if count[e] < 300 {
			t.Errorf("only %d times %v", count[e], e)
		}
	}
}

// restricts tells if a narrowed token has or allows what the original one has not, and if it isn't just what the caveat leaves.
func restricts(t *testing.T, x, y api.Token, c api.Caveat) {
	t.Helper()
	before, after := token.Roles(x), token.Roles(y)
	for _, r := range after {
		if !slices.Contains(before, r) {
			t.Fatalf("%+v has the additional role %v behind %+v", y, r, c)
		}
	}
	if token.Until(y) > token.Until(x) || c.Kind == 2 && token.Until(y) > c.Until || y.Who != x.Who || y.Domain != x.Domain {
		t.Fatalf("%+v ends at %d, and not at %d, behind %+v", y, token.Until(y), token.Until(x), c)
	}
	auds := []string{"d2", "d3", "", c.Aud}
	for _, role := range append(append(manyRoles(6), x.Roles...), c.Roles...) {
		for _, now := range []int{0, 1, 29, 30, token.Until(x) - 1, token.Until(x), token.Until(y) - 1, token.Until(y), greatest} {
			for _, aud := range auds {
				first, second := token.Allows(x, role, aud, now), token.Allows(y, role, aud, now)
				cut := c.Kind == 1 && !slices.Contains(c.Roles, role) || c.Kind == 2 && tick(now) >= c.Until || c.Kind == 3 && aud != c.Aud
				if second == api.OK && first != api.OK || (second == api.OK) != (first == api.OK && !cut) {
					t.Fatalf("Allows(%v, %q, %d) = %v, and %v behind %+v, of %+v", role, aud, now, first, second, c, x)
				}
			}
		}
	}
}

// P12.5: a narrowed token has no additional roles, and no later end; whatever it allows, the original one allowed, and so did each one between.
func TestAttenuation(t *testing.T) {
	m := newMixer(5)
	for range 600 {
		x := m.mixture(0)
		x.Until = pick(m, []int{0, 1, 30, 31, 40, greatest - 1, greatest})
		y, e := token.Mint([]byte("key"), x)
		chain := []api.Token{y}
		for range mostCut {
			c := m.caveat()
			z, f := token.Narrow(y, c)
			if e != api.OK || f != api.OK {
				t.Fatalf("%+v can't be narrowed by %+v: %v, %v", y, c, e, f)
			}
			restricts(t, y, z, c)
			for _, earlier := range chain {
				if token.Until(z) > token.Until(earlier) || len(token.Roles(z)) > len(token.Roles(earlier)) {
					t.Fatalf("%+v and %+v", earlier, z)
				}
			}
			y = z
			chain = append(chain, y)
		}
	}
}

// P12.5: each pair of caveats, in both orders: the two tokens allow the same.
func TestCaveatsInAnyOrder(t *testing.T) {
	x, _ := token.Mint(nil, example())
	names := func(l []api.Role) string {
		s := ""
		for _, r := range l {
			s += r.Owner + "." + r.Name + " "
		}
		return s
	}
	for _, c := range someCaveats() {
		for _, d := range someCaveats() {
			y, _ := token.Narrow(x, c)
			restricts(t, x, y, c)
			first, e := token.Narrow(y, d)
			z, _ := token.Narrow(x, d)
			second, f := token.Narrow(z, c)
			if e != api.OK || f != api.OK || token.Until(first) != token.Until(second) || strings.Compare(names(token.Roles(first)), names(token.Roles(second))) != 0 {
				t.Fatalf("%+v and %+v", first, second)
			}
			for _, aud := range someNames {
				if token.Allows(first, roleOf(1, "a"), aud, 0) != token.Allows(second, roleOf(1, "a"), aud, 0) {
					t.Fatalf("%+v and %+v by %s", first, second, aud)
				}
			}
		}
	}
}
