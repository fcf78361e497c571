package token

import (
	"slices"

	"livery/api"
	"livery/names"
	"livery/wire"
)

// Put returns b followed by the encoding of t, or ErrToken if t is not valid.
func Put(b []byte, t api.Token) ([]byte, api.Errno) {
	if !May(t) {
		return nil, api.ErrToken
	}
	encoded := wire.Number(head(t), len(t.Caveats))
	for _, c := range t.Caveats {
		encoded = append(encoded, caveat(c)...)
	}
	return slices.Concat(b, wire.Text(encoded, string(t.Tag))), api.OK
}

// head returns the encoding of the head of a valid token.
func head(t api.Token) []byte {
	b := wire.Number(nil, t.Domain)
	b = wire.Number(b, t.Epoch)
	b = wire.Number(b, t.Number)
	b = wire.Text(b, t.Who)
	b = withRoles(b, t.Roles)
	b = wire.Number(b, t.Until)
	b = wire.Number(b, len(t.Support))
	for _, id := range t.Support {
		b = wire.Number(b, id.Domain)
		b = wire.Number(b, id.Seq)
	}
	return b
}

// caveat returns the encoding of a valid caveat: behind its Kind there is only what that Kind has.
func caveat(c api.Caveat) []byte {
	b := wire.Number(nil, c.Kind)
	switch c.Kind {
	case api.CutRoles:
		b = withRoles(b, c.Roles)
	case api.CutUntil:
		b = wire.Number(b, c.Until)
	case api.CutFor:
		b = wire.Text(b, c.Aud)
	}
	return b
}

// withRoles returns b followed by the number of roles, and these.
func withRoles(b []byte, l []api.Role) []byte {
	b = wire.Number(b, len(l))
	for _, r := range l {
		b = wire.Number(b, names.Number(r.Owner))
		b = wire.Text(b, r.Name)
	}
	return b
}

// Read reads a valid token from c; if c is nil or has an error, or one is found, it returns the zero token.
func Read(c *wire.Cursor) api.Token {
	if c == nil {
		return api.Token{}
	}
	t := parts(c)
	if !May(t) {
		c.Fail(api.ErrBytes) // sets nothing if Number or Text has found an error
	}
	if c.Err() != api.OK {
		return api.Token{}
	}
	return t
}

// parts reads the parts of a token in their order. A cursor that has an error reads no more: the others are then zero.
func parts(c *wire.Cursor) api.Token {
	t := api.Token{}
	t.Domain = c.Number(1, api.MaxDomains)
	t.Epoch = c.Number(1, api.MaxEpoch)
	t.Number = c.Number(1, api.MaxNumber)
	t.Who = c.Text(api.MaxName)
	t.Roles = list(c, api.MaxRoles, readRole)
	t.Until = c.Number(0, api.MaxTick)
	t.Support = list(c, mostSupport, readID)
	t.Caveats = list(c, api.MaxCaveats, readCaveat)
	t.Tag = []byte(c.Text(tagSize))
	return t
}

// list reads a number, at most most, and as many of what read reads.
func list[T any](c *wire.Cursor, most int, read func(*wire.Cursor) T) []T {
	var l []T
	for range c.Number(0, most) {
		l = append(l, read(c))
	}
	return l
}

// readRole reads a role, whose Name may be any string.
func readRole(c *wire.Cursor) api.Role {
	owner := names.Domain(c.Number(1, api.MaxDomains))
	return api.Role{Owner: owner, Name: c.Text(api.MaxName)}
}

// readID reads an ID.
func readID(c *wire.Cursor) api.ID {
	domain := c.Number(1, api.MaxDomains)
	return api.ID{Domain: domain, Seq: c.Number(1, api.MaxSeq)}
}

// readCaveat reads a caveat, of which no other fields are set than those of its Kind.
func readCaveat(c *wire.Cursor) api.Caveat {
	r := api.Caveat{Kind: c.Number(api.CutRoles, api.CutFor)}
	switch r.Kind {
	case api.CutRoles:
		r.Roles = list(c, api.MaxRoles, readRole)
	case api.CutUntil:
		r.Until = c.Number(0, api.MaxTick)
	case api.CutFor:
		r.Aud = c.Text(api.MaxName)
	}
	return r
}
