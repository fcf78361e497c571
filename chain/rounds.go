package chain

import (
	"slices"

	"livery/api"
	"livery/cred"
	"livery/names"
	"livery/solve"
)

// search has the rules of credentials, and what is known of the pairs of some people: of the domains, by which Links
// go, and of the one name that a call is about. No pair of theirs follows from one of another name.
type search struct {
	people [1 + api.MaxDomains]string // that name, and each domain at its number
	creds  []api.Cred                 // the effective ones, in order
	giving map[api.Role][]api.Cred    // by the role of a credential; in order
	asking map[api.Role][]api.Cred    // by a role that a credential asks for (of a Link, its own domain's one)
	linked map[api.Role][]api.Role    // by the other role that a Link asks for, of a domain that it found: the Link's role

	rounds  map[solve.Pair]int
	fresh   []solve.Pair // those of the last round
	reasons map[solve.Pair]reason
	later   []solve.Pair // those whose reasons are still to be found
}

// ranked returns a search with the rules of l, and the rounds of all pairs of who and of the domains.
func ranked(l []api.Cred, who string) *search {
	s := &search{
		creds:   cred.Counts(l),
		giving:  map[api.Role][]api.Cred{},
		asking:  map[api.Role][]api.Cred{},
		linked:  map[api.Role][]api.Role{},
		rounds:  map[solve.Pair]int{},
		reasons: map[solve.Pair]reason{},
	}
	s.people[0] = who
	for n := 1; n <= api.MaxDomains; n++ {
		s.people[n] = names.Domain(n)
	}
	for _, c := range s.creds {
		s.take(c)
	}
	for n := 2; len(s.fresh) > 0; n++ {
		last := s.fresh
		s.fresh = nil
		for _, p := range last {
			s.follow(p, n)
		}
	}
	return s
}

// take adds the rule of a credential. What a Member says is a pair of the first round, or of nobody who matters.
func (s *search) take(c api.Cred) {
	role := cred.Role(c)
	switch c.Kind {
	case api.Member:
		if !slices.Contains(s.people[:], c.Who) {
			return
		}
		s.add(solve.Pair{Role: role, Who: c.Who}, 1)
	case api.Include:
		s.ask(c.A, c)
	case api.Link:
		s.ask(api.Role{Owner: role.Owner, Name: c.A.Name}, c)
	case api.Both:
		s.ask(c.A, c)
		s.ask(c.B, c)
	}
	s.giving[role] = append(s.giving[role], c)
}

// ask notes that c asks for a role.
func (s *search) ask(role api.Role, c api.Cred) {
	s.asking[role] = append(s.asking[role], c)
}

// add makes n the round of a pair, unless it has an earlier one.
func (s *search) add(p solve.Pair, n int) {
	if s.rounds[p] != 0 {
		return
	}
	s.rounds[p] = n
	s.fresh = append(s.fresh, p)
}

// follow adds the pairs of the round n that are derived from p, whose round is the one ahead of it, and from others.
func (s *search) follow(p solve.Pair, n int) {
	for _, c := range s.asking[p.Role] {
		if c.Kind == api.Link {
			s.open(c, p.Who, n)
			continue
		}
		q := solve.Pair{Role: cred.Role(c), Who: p.Who}
		if _, ok := s.try(c, q, n); ok {
			s.add(q, n)
		}
	}
	for _, role := range s.linked[p.Role] {
		s.add(solve.Pair{Role: role, Who: p.Who}, n)
	}
}

// open adds the pairs of the round n that a Link derives by a domain that it found, and lets those of later rounds follow.
func (s *search) open(c api.Cred, domain string, n int) {
	if names.Number(domain) == 0 {
		return
	}
	role, other := cred.Role(c), api.Role{Owner: domain, Name: c.B.Name}
	s.linked[other] = append(s.linked[other], role)
	for _, who := range s.people {
		if _, ok := s.ahead(n, solve.Pair{Role: other, Who: who}); ok {
			s.add(solve.Pair{Role: role, Who: who}, n)
		}
	}
}

// try returns pairs with rounds less than n from which c derives p, a pair of its role, and reports whether there are such.
func (s *search) try(c api.Cred, p solve.Pair, n int) ([]solve.Pair, bool) {
	kinds := [...]func(*search, api.Cred, solve.Pair, int) ([]solve.Pair, bool){
		api.Member:  (*search).member,
		api.Include: (*search).include,
		api.Link:    (*search).link,
		api.Both:    (*search).both,
	}
	return kinds[c.Kind](s, c, p, n)
}

// member tries a Member.
func (s *search) member(c api.Cred, p solve.Pair, _ int) ([]solve.Pair, bool) {
	return nil, c.Who == p.Who
}

// include tries an Include.
func (s *search) include(c api.Cred, p solve.Pair, n int) ([]solve.Pair, bool) {
	return s.ahead(n, solve.Pair{Role: c.A, Who: p.Who})
}

// link tries a Link, by one domain after the other.
func (s *search) link(c api.Cred, p solve.Pair, n int) ([]solve.Pair, bool) {
	own := api.Role{Owner: p.Role.Owner, Name: c.A.Name}
	for _, domain := range s.people[1:] {
		other := api.Role{Owner: domain, Name: c.B.Name}
		if parts, ok := s.ahead(n, solve.Pair{Role: own, Who: domain}, solve.Pair{Role: other, Who: p.Who}); ok {
			return parts, true
		}
	}
	return nil, false
}

// both tries a Both.
func (s *search) both(c api.Cred, p solve.Pair, n int) ([]solve.Pair, bool) {
	return s.ahead(n, solve.Pair{Role: c.A, Who: p.Who}, solve.Pair{Role: c.B, Who: p.Who})
}

// ahead returns these pairs if all of them have rounds less than n, and reports whether they have.
func (s *search) ahead(n int, pairs ...solve.Pair) ([]solve.Pair, bool) {
	for _, p := range pairs {
		if r := s.rounds[p]; r == 0 || r >= n {
			return nil, false
		}
	}
	return pairs, true
}
