package journal

import (
	"bytes"

	"livery/api"
	"livery/sums"
	"livery/tape"
	"livery/wire"
)

const (
	lengthSize  = 2    // bytes of a record's length in its frame
	sumSize     = 2    // bytes of a frame's sum
	mostRecords = 4000 // the greatest number of records in a head
	neither     = -1   // stands for a side where there is none
)

// What the bytes behind the frames of a side are.
const (
	none  = iota // there are none
	part         // the first bytes of a frame
	whole        // a frame
	wrong        // no bytes of a frame
)

// side is what is on a side of a tape.
type side struct {
	records    [][]byte // those of its frames
	size       int      // the bytes of its frames
	torn       bool
	generation int // that of its head, if it has a frame
	complete   bool
}

// may reports whether bytes are a record.
func may(record []byte) bool {
	return len(record) >= 1 && len(record) <= api.MaxBody
}

// all reports whether all of a list are records.
func all(l [][]byte) bool {
	for _, r := range l {
		if !may(r) {
			return false
		}
	}
	return true
}

// heading returns the head of a generation with so many records.
func heading(generation, count int) []byte {
	return wire.Number(wire.Number(nil, generation), count)
}

// headed returns the generation and the number of records that are in a head, and whether it is one.
func headed(record []byte) (generation, count int, ok bool) {
	c := wire.New(record)
	generation = c.Number(1, api.MaxNumber)
	count = c.Number(0, mostRecords)
	return generation, count, c.End() == api.OK
}

// framed returns b, which may be written to, followed by the frame of a record.
func framed(b, record []byte) []byte {
	start := len(b)
	b = append(b, byte(len(record)>>8), byte(len(record)))
	b = append(b, record...)
	return append(b, sums.Put(sums.Sum(b[start:]))...)
}

// frameSize returns the number of bytes of a record's frame.
func frameSize(record []byte) int {
	return lengthSize + len(record) + sumSize
}

// room returns how many bytes the frames of a head and of records have together.
func room(head []byte, l [][]byte) int {
	size := frameSize(head)
	for _, r := range l {
		size += frameSize(r)
	}
	return size
}

// first returns what b begins with, and the record if that is a frame.
func first(b []byte) ([]byte, int) {
	if len(b) == 0 {
		return nil, none
	}
	if len(b) < lengthSize {
		return nil, part
	}
	length := int(b[0])<<8 | int(b[1])
	if length < 1 || length > api.MaxBody {
		return nil, wrong
	}
	end := lengthSize + length
	if len(b) < end+sumSize {
		return nil, part
	}
	if !bytes.Equal(b[end:end+sumSize], sums.Put(sums.Sum(b[:end]))) {
		return nil, wrong
	}
	return b[lengthSize:end], whole
}

// reading returns what is on a side that has the bytes b. It returns ErrCorrupt if the side is invalid, or has a frame and
// the first one is not that of a head.
func reading(b []byte) (side, api.Errno) {
	var s side
frames:
	for {
		record, is := first(b[s.size:])
		switch is {
		case none:
			break frames
		case part:
			s.torn = true
			break frames
		case whole:
			s.records = append(s.records, record)
			s.size += frameSize(record)
		case wrong:
			return side{}, api.ErrCorrupt
		}
	}
	if len(s.records) == 0 {
		return s, api.OK
	}
	generation, count, ok := headed(s.records[0])
	if !ok {
		return side{}, api.ErrCorrupt
	}
	s.generation, s.complete = generation, len(s.records)-1 >= count
	return s, api.OK
}

// readings returns what is on both sides of a tape.
func readings(t *tape.Tape) ([2]side, api.Errno) {
	var sides [2]side
	for i := range sides {
		b, e := t.Read(i)
		if e == api.OK {
			sides[i], e = reading(b)
		}
		if e != api.OK {
			return [2]side{}, e
		}
	}
	return sides, api.OK
}

// current returns which side is the current one: neither if none is complete and none has a frame.
func current(sides [2]side) (int, api.Errno) {
	a, b := sides[0], sides[1]
	switch {
	case a.complete && b.complete && a.generation == b.generation:
		return 0, api.ErrCorrupt
	case a.complete && (!b.complete || a.generation > b.generation):
		return 0, api.OK
	case b.complete:
		return 1, api.OK
	case len(a.records)+len(b.records) > 0:
		return 0, api.ErrCorrupt
	}
	return neither, api.OK
}
