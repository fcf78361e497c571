package journal_test

import (
	"slices"
	"strconv"
	"strings"
	"testing"

	"livery/api"
	"livery/journal"
	"livery/tape"
)

const (
	room = 65536   // TapeSize
	body = 8192    // MaxBody
	most = 1 << 40 // MaxNumber
	many = 4000    // the greatest number of records in a head
)

// text is a string of bytes.
func text(l ...int) string {
	s := make([]byte, len(l))
	for i, b := range l {
		s[i] = byte(b)
	}
	return string(s)
}

// sum is the checksum of chapter 15, as the rest of a division of polynomials.
func sum(s string) int {
	rest := 65535
	for _, b := range []byte(s) {
		rest ^= int(b) << 8
		for range 8 {
			if rest *= 2; rest > 65535 {
				rest ^= 0x11021
			}
		}
	}
	return rest
}

// frame is the frame of a record, as the chapter's words have it; of other bytes what they would have.
func frame(record string) string {
	s := text(len(record)/256, len(record)%256) + record
	return s + text(sum(s)/256, sum(s)%256)
}

// frames are the frames of records, one after the other.
func frames(records ...string) string {
	var s strings.Builder
	for _, r := range records {
		s.WriteString(frame(r))
	}
	return s.String()
}

// number is the encoding of a number, as chapter 3 has it.
func number(n int) string {
	s := ""
	for ; n > 0; n /= 256 {
		s = text(n%256) + s
	}
	return text(len(s)) + s
}

// head is a head.
func head(generation, records int) string {
	return number(generation) + number(records)
}

// side is a side with the frames of a head and of records, as many as the head says.
func side(generation int, records ...string) string {
	return frame(head(generation, len(records))) + frames(records...)
}

// long is a record of so many bytes.
func long(size int) string {
	s := make([]byte, size)
	for i := range s {
		s[i] = byte(i*7 + i/256 + size)
	}
	return string(s)
}

// ones are so many records of one byte.
func ones(n int) []string {
	l := make([]string, n)
	for i := range l {
		l[i] = text(i)
	}
	return l
}

// parts are the records of the frames of a side, and what is behind the last one, as the chapter's words have it.
func parts(s string) (records []string, end string) {
	for {
		switch {
		case s == "":
			return records, "ends"
		case len(s) == 1:
			return records, "torn"
		}
		size := int(s[0])*256 + int(s[1])
		switch {
		case size == 0 || size > body:
			return records, "invalid"
		case len(s) < size+4:
			return records, "torn"
		case s[:size+4] != frame(s[2:size+2]):
			return records, "invalid"
		}
		records = append(records, s[2:size+2])
		s = s[size+4:]
	}
}

// heading are the generation and the number of records that a head has; none if the record is no head.
func heading(record string) (generation, records int, ok bool) {
	var l [2]int
	rest := record
	for i := range l {
		if rest == "" || rest[0] > 7 || len(rest) <= int(rest[0]) {
			return 0, 0, false
		}
		digits := rest[1 : 1+rest[0]]
		for _, b := range []byte(digits) {
			l[i] = l[i]*256 + int(b)
		}
		rest = rest[1+len(digits):]
	}
	generation, records = l[0], l[1]
	ok = record == head(generation, records) && generation >= 1 && generation <= most && records <= many
	return generation, records, ok
}

// model is a journal as the chapter's words have it, on a tape of its own, of which it asks what the chapter says.
type model struct {
	x          *tape.Tape
	side       int
	generation int
	all        []string // the records of its frames, with that of the head
	broken     bool
}

// asked asks a tape for one thing after the other, up to the first error.
func asked(calls ...func() api.Errno) api.Errno {
	for _, call := range calls {
		if e := call(); e != api.OK {
			return e
		}
	}
	return api.OK
}

// write, clear, trim are calls of a tape.
func write(x *tape.Tape, side int, s string) func() api.Errno {
	return func() api.Errno { return x.Write(side, []byte(s)) }
}

func clearing(x *tape.Tape, side int) func() api.Errno {
	return func() api.Errno { return x.Clear(side) }
}

func trim(x *tape.Tape, side, n int) func() api.Errno {
	return func() api.Errno { return x.Trim(side, n) }
}

// opened is Open, as P17.1 has it.
func opened(x *tape.Tape) (*model, api.Errno) {
	if x == nil {
		return nil, api.ErrArg
	}
	var all [2][]string
	var ends [2]string
	var generations [2]int
	var complete [2]bool
	corrupt := false
	for i := range 2 {
		b, e := x.Read(i)
		if e != api.OK {
			return nil, e
		}
		all[i], ends[i] = parts(string(b))
		if len(all[i]) > 0 {
			g, n, ok := heading(all[i][0])
			generations[i], complete[i] = g, ok && len(all[i])-1 >= n
			corrupt = corrupt || !ok
		}
		corrupt = corrupt || ends[i] == "invalid"
	}
	if corrupt || complete[0] && complete[1] && generations[0] == generations[1] {
		return nil, api.ErrCorrupt
	}
	if !complete[0] && !complete[1] {
		if len(all[0])+len(all[1]) > 0 {
			return nil, api.ErrCorrupt
		}
		m := &model{x, 0, 1, []string{head(1, 0)}, false}
		return m.unless(asked(clearing(x, 0), clearing(x, 1), write(x, 0, side(1)), x.Sync))
	}
	i := 0
	if !complete[0] || complete[1] && generations[1] > generations[0] {
		i = 1
	}
	m := &model{x, i, generations[i], all[i], false}
	if ends[i] != "torn" {
		return m, api.OK
	}
	return m.unless(asked(trim(x, i, len(frames(all[i]...))), x.Sync))
}

// unless is the model, or none with an error.
func (m *model) unless(e api.Errno) (*model, api.Errno) {
	if e != api.OK {
		return nil, e
	}
	return m, e
}

// isRecord reports whether bytes are a record.
func isRecord(s string) bool {
	return len(s) >= 1 && len(s) <= body
}

// append is Append, as P17.2 has it.
func (m *model) append(record string) api.Errno {
	switch {
	case m.broken:
		return api.ErrDown
	case !isRecord(record):
		return api.ErrArg
	}
	e := asked(write(m.x, m.side, frame(record)), m.x.Sync)
	m.broken = e != api.OK && e != api.ErrRoom
	if e == api.OK {
		m.all = append(m.all, record)
	}
	return e
}

// renew is Renew, as P17.2 has it.
func (m *model) renew(l []string) api.Errno {
	switch {
	case m.broken:
		return api.ErrDown
	case slices.ContainsFunc(l, func(s string) bool { return !isRecord(s) }), len(l) > many, m.generation == most:
		return api.ErrArg
	}
	s, other := side(m.generation+1, l...), 1-m.side
	if len(s) > room {
		return api.ErrRoom
	}
	e := asked(clearing(m.x, other), write(m.x, other, s), m.x.Sync)
	m.broken = e != api.OK && e != api.ErrRoom
	if e == api.OK {
		m.side, m.generation = other, m.generation+1
		m.all = append([]string{head(m.generation, len(l))}, l...)
	}
	return e
}

// pair is a journal and its model, of which the same is asked.
type pair struct {
	*testing.T
	x, y *tape.Tape       // those of the journal and of the model
	j    *journal.Journal // nil, like the model, where Open returned an error
	m    *model
	told string // what was asked so far
}

// brief is a text that can be read: the beginning of a long one.
func brief(s string) string {
	if len(s) <= 24 {
		return strconv.Quote(s)
	}
	return strconv.Quote(s[:24]) + " and more, " + strconv.Itoa(len(s))
}

// briefs are several of them.
func briefs(l []string) string {
	s := strconv.Itoa(len(l)) + ":"
	for _, r := range l[:min(len(l), 6)] {
		s += " " + brief(r)
	}
	return s
}

// laid is a tape whose sides have these bytes.
func laid(a, b string) *tape.Tape {
	x := tape.New()
	x.Write(0, []byte(a))
	x.Write(1, []byte(b))
	x.Sync()
	return x
}

// records are the records of a journal.
func records(j *journal.Journal) []string {
	var l []string
	for _, r := range j.Records() {
		l = append(l, string(r))
	}
	return l
}

// listed are texts as slices of bytes.
func listed(l []string) [][]byte {
	var all [][]byte
	for _, s := range l {
		all = append(all, []byte(s))
	}
	return all
}

// open opens the journals of two tapes that are laid so.
func open(t *testing.T, a, b string) *pair {
	t.Helper()
	p := &pair{T: t, x: laid(a, b), y: laid(a, b), told: brief(a) + ", " + brief(b)}
	p.reopen()
	return p
}

// reopen opens the journals on both tapes.
func (p *pair) reopen() {
	p.Helper()
	var e, want api.Errno
	p.j, e = journal.Open(p.x)
	p.m, want = opened(p.y)
	p.told += "; opened"
	if e != want {
		p.Fatalf("%s: Open = %v, want %v", p.told, e, want)
	}
	if (p.j == nil) != (p.m == nil) {
		p.Fatalf("%s: a journal with an error, or none without", p.told)
	}
	p.check()
}

// check tells if the journal or its tape isn't as the model.
func (p *pair) check() {
	p.Helper()
	if p.x.Units() != p.y.Units() {
		p.Fatalf("%s: %d units, want %d", p.told, p.x.Units(), p.y.Units())
	}
	for i := range 2 {
		got, e := p.x.Read(i)
		want, f := p.y.Read(i)
		if string(got) != string(want) || e != f {
			p.Fatalf("%s: side %d has %s, %v, want %s, %v", p.told, i, brief(string(got)), e, brief(string(want)), f)
		}
	}
	if p.m != nil {
		has(p.T, p.told, p.j, p.m.generation, len(frames(p.m.all...)), p.m.all[1:]...)
	}
}

// has tells if a journal hasn't this generation, Size and records.
func has(t *testing.T, told string, j *journal.Journal, generation, size int, l ...string) {
	t.Helper()
	if got := j.Generation(); got != generation {
		t.Fatalf("%s: Generation %d, want %d", told, got, generation)
	}
	if got := j.Size(); got != size {
		t.Fatalf("%s: Size %d, want %d", told, got, size)
	}
	if got := records(j); !slices.Equal(got, l) {
		t.Fatalf("%s: Records %s, want %s", told, briefs(got), briefs(l))
	}
}

// append asks for Append.
func (p *pair) append(record string) api.Errno {
	p.Helper()
	p.told += "; append " + brief(record)
	got, want := p.j.Append([]byte(record)), p.m.append(record)
	return p.same(got, want)
}

// renew asks for Renew.
func (p *pair) renew(l ...string) api.Errno {
	p.Helper()
	p.told += "; renew " + briefs(l)
	got, want := p.j.Renew(listed(l)), p.m.renew(l)
	return p.same(got, want)
}

// same tells if an answer isn't the model's, or anything isn't as the model has it.
func (p *pair) same(got, want api.Errno) api.Errno {
	p.Helper()
	if got != want {
		p.Fatalf("%s = %v, want %v", p.told, got, want)
	}
	p.check()
	return got
}

// fuse lights the same fuse on both tapes.
func (p *pair) fuse(n int) {
	p.told += "; fuse " + strconv.Itoa(n)
	p.x.Fuse(n)
	p.y.Fuse(n)
}

// crash keeps as many units of both tapes.
func (p *pair) crash(k int) {
	p.Helper()
	p.told += "; crash " + strconv.Itoa(k)
	p.x.Crash(k)
	p.y.Crash(k)
	p.check()
}

// crashes do with what done has built, and each number of its units that are kept then.
func crashes(done func() *pair, do func(p *pair, k int)) {
	for k := 0; k <= done().x.Units(); k++ {
		p := done()
		p.crash(k)
		do(p, k)
	}
}

// is tells if an answer isn't the one that is spelt out.
func is(t *testing.T, told string, got, want api.Errno) {
	t.Helper()
	if got != want {
		t.Fatalf("%s: %v, want %v", told, got, want)
	}
}

// lies tells if the sides of a tape aren't these.
func lies(t *testing.T, told string, x *tape.Tape, a, b string) {
	t.Helper()
	for i, want := range []string{a, b} {
		if got, e := x.Read(i); string(got) != want || e != api.OK {
			t.Fatalf("%s: side %d has %s, %v, want %s", told, i, brief(string(got)), e, brief(want))
		}
	}
}

// opens is the journal on a tape, on which there is one.
func opens(t *testing.T, told string, x *tape.Tape) *journal.Journal {
	t.Helper()
	j, e := journal.Open(x)
	if j == nil || e != api.OK {
		t.Fatalf("%s: Open = %v", told, e)
	}
	return j
}
