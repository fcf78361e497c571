package wire_test

import (
	"bytes"
	"math"
	"math/big"
	"math/bits"
	"strings"
	"sync"
	"testing"

	"livery/api"
	"livery/wire"
)

// pattern returns n bytes that differ from place to place.
func pattern(n int) []byte {
	b := make([]byte, n)
	for i := range b {
		b[i] = byte(7*i + i/251 + 3)
	}
	return b
}

// reference returns the encoding of a number, computed in another way.
func reference(n int) []byte {
	number := big.NewInt(int64(n)).Bytes()
	return append([]byte{byte(len(number))}, number...)
}

// borders are the numbers about those where an encoding becomes longer, or where bits change, in their order.
func borders() []int {
	list := []int{0, 1, 2, 3, 5, 9, 10, 100}
	for i := 7; i < 63; i++ {
		list = append(list, 1<<i-1, 1<<i, 1<<i+1)
	}
	return append(list, math.MaxInt64-1, math.MaxInt64)
}

// P3.1: the chapter's examples.
func TestPutExamples(t *testing.T) {
	for n, want := range map[int][]byte{0: {0}, 1: {1, 1}, 256: {2, 1, 0}} {
		if got := wire.Number(nil, n); !bytes.Equal(got, want) {
			t.Errorf("Number of %d = %v, want %v", n, got, want)
		}
	}
	if got := wire.Text(nil, "ab"); !bytes.Equal(got, []byte{1, 2, 97, 98}) {
		t.Errorf("Text of ab = %v", got)
	}
}

// P3.1: numbers of each length, the least and the greatest.
func TestPutNumberLengths(t *testing.T) {
	for n, want := range map[int]string{
		2:               "\x01\x02",
		255:             "\x01\xff",
		257:             "\x02\x01\x01",
		1<<16 - 1:       "\x02\xff\xff",
		1 << 16:         "\x03\x01\x00\x00",
		0x010203:        "\x03\x01\x02\x03",
		1<<24 - 1:       "\x03\xff\xff\xff",
		1 << 24:         "\x04\x01\x00\x00\x00",
		1<<32 - 1:       "\x04\xff\xff\xff\xff",
		1 << 32:         "\x05\x01\x00\x00\x00\x00",
		1<<40 - 1:       "\x05\xff\xff\xff\xff\xff",
		1 << 40:         "\x06\x01\x00\x00\x00\x00\x00",
		1<<48 - 1:       "\x06\xff\xff\xff\xff\xff\xff",
		1 << 48:         "\x07\x01\x00\x00\x00\x00\x00\x00",
		1<<56 - 1:       "\x07\xff\xff\xff\xff\xff\xff\xff",
		1 << 56:         "\x08\x01\x00\x00\x00\x00\x00\x00\x00",
		0x0a0b0c0d0e0f0: "\x06\xa0\xb0\xc0\xd0\xe0\xf0",
		1 << 62:         "\x08\x40\x00\x00\x00\x00\x00\x00\x00",
		math.MaxInt64:   "\x08\x7f\xff\xff\xff\xff\xff\xff\xff",
	} {
		if got := wire.Number(nil, n); string(got) != want {
			t.Errorf("Number of %d = %v, want %v", n, got, []byte(want))
		}
	}
	for _, n := range borders() {
		if got := wire.Number(nil, n); !bytes.Equal(got, reference(n)) {
			t.Errorf("Number of %d = %v, want %v", n, got, reference(n))
		}
	}
}

// P3.1: a negative number is encoded as 0.
func TestPutNegativeNumbers(t *testing.T) {
	for i := range 64 {
		for _, n := range []int{-1 << i, -1<<i - 1, -(1<<i - 1)} {
			if n < 0 && !bytes.Equal(wire.Number([]byte{7}, n), []byte{7, 0}) {
				t.Errorf("Number of %d = %v", n, wire.Number([]byte{7}, n))
			}
		}
	}
}

// P3.1: the bytes b are in front, whatever they are, and however much spare capacity they have.
func TestPutBehindBytes(t *testing.T) {
	for _, size := range []int{0, 1, 2, 7, 100} {
		for _, spare := range []int{0, 1, 5, 500} {
			b := pattern(size + spare)[:size]
			for _, n := range []int{-1, 0, 77, 1 << 20, math.MaxInt64} {
				want := append(pattern(size), reference(max(n, 0))...)
				if got := wire.Number(b, n); !bytes.Equal(got, want) {
					t.Errorf("Number of %d behind %d bytes = %v, want %v", n, size, got, want)
				}
			}
			want := append(append(pattern(size), 1, 5), "hello"...)
			if got := wire.Text(b, "hello"); !bytes.Equal(got, want) {
				t.Errorf("Text behind %d bytes = %v, want %v", size, got, want)
			}
		}
	}
}

// P3.1: strings of each length of their length, taken byte by byte.
func TestPutTexts(t *testing.T) {
	for _, s := range texts() {
		want := append(reference(len(s)), s...)
		if got := wire.Text(nil, s); !bytes.Equal(got, want) {
			t.Errorf("Text of %d bytes has %d bytes, and begins with %v", len(s), len(got), got[:min(len(got), 9)])
		}
	}
}

// texts are strings of many kinds: none, all bytes, no UTF-8, strings that look like encodings, long ones.
func texts() []string {
	list := []string{"", "a", "ab", "\x00", "\x00\x00", "\xff\xfe", "é€", "\x01\x01a", "\x08", "\t"}
	for _, n := range []int{8, 9, 127, 128, 255, 256, 257, 1000, 1<<16 - 1, 1 << 16} {
		list = append(list, string(pattern(n)))
	}
	return append(list, strings.Repeat("x", 1<<24-1), strings.Repeat("y", 1<<24))
}

// P3.2: numbers of each length are read; the position is behind them.
func TestReadNumbers(t *testing.T) {
	for _, n := range borders() {
		for _, before := range []int{0, 1, 5} {
			c := wire.New(append(bytes.Repeat([]byte{0}, before), reference(n)...))
			for range before {
				c.Number(0, 0)
			}
			if got := c.Number(0, math.MaxInt64); got != n || c.Err() != api.OK {
				t.Errorf("%d is read as %d, %v", n, got, c.Err())
			}
			if c.Place() != before+len(reference(n)) || c.End() != api.OK {
				t.Errorf("behind %d: position %d, End %v", n, c.Place(), c.End())
			}
		}
	}
}

// P3.2: numbers at their bounds, and one beyond.
func TestReadNumberBounds(t *testing.T) {
	for _, n := range borders() {
		for _, x := range []struct {
			least, most int
			fits        bool
		}{
			{n, n, true},
			{0, n, true},
			{n, math.MaxInt64, true},
			{math.MinInt64, math.MaxInt64, true},
			{-1, n, true},
			{n - 1, n, true},
			{0, n - 1, false},
			{math.MinInt64, n - 1, false},
			{math.MinInt64, -1, false},
			{math.MinInt64, math.MinInt64, false},
			{-5, -3, false},
			{n, n - 1, false},
			{math.MaxInt64, math.MinInt64, false},
			{1, 0, false},
			{0, -1, false},
		} {
			checkNumber(t, reference(n), n, x.least, x.most, x.fits)
		}
		if n < math.MaxInt64 {
			checkNumber(t, reference(n), n, n, n+1, true)
			checkNumber(t, reference(n), n, n+1, math.MaxInt64, false)
			checkNumber(t, reference(n), n, n+1, n, false)
			checkNumber(t, reference(n), n, n+1, n-1, false)
		}
	}
}

// checkNumber reads the encoding of n with bounds in which it lies or does not.
func checkNumber(t *testing.T, b []byte, n, least, most int, fits bool) {
	t.Helper()
	c := wire.New(b)
	got := c.Number(least, most)
	if fits && (got != n || c.Err() != api.OK || c.Place() != len(b)) {
		t.Errorf("%d with the bounds %d and %d: %d, %v, position %d", n, least, most, got, c.Err(), c.Place())
	}
	if !fits && (got != 0 || c.Err() != api.ErrBytes || c.Place() != 0) {
		t.Errorf("%d, which is not %d to %d: %d, %v, position %d", n, least, most, got, c.Err(), c.Place())
	}
}

// wrongNumbers are bytes that begin with no encoding of a number, or with one that is above 10, and the error.
var wrongNumbers = []struct {
	b    []byte
	want api.Errno
}{
	{nil, api.ErrShort},
	{[]byte{}, api.ErrShort},
	{[]byte{2, 1}, api.ErrShort}, // the chapter's examples
	{[]byte{1, 0}, api.ErrBytes},
	{[]byte{1, 11}, api.ErrBytes},
	{[]byte{1}, api.ErrShort},
	{[]byte{2}, api.ErrShort},
	{[]byte{8}, api.ErrShort},
	{[]byte{8, 1, 1, 1, 1, 1, 1, 1}, api.ErrShort},
	{[]byte{3, 1, 1}, api.ErrShort},
	{[]byte{9, 1, 1, 1, 1, 1, 1, 1, 1, 1}, api.ErrBytes},
	{[]byte{9, 1, 1, 1, 1, 1, 1, 1, 1, 1, 1, 1}, api.ErrBytes},
	{[]byte{10, 1, 1, 1, 1, 1, 1, 1, 1, 1, 1}, api.ErrBytes},
	{append([]byte{16}, make([]byte, 16)...), api.ErrBytes},
	{append([]byte{128}, make([]byte, 128)...), api.ErrBytes},
	{append([]byte{255}, pattern(255)...), api.ErrBytes},
	{[]byte{2, 0, 1}, api.ErrBytes},
	{[]byte{2, 0, 0}, api.ErrBytes},
	{[]byte{8, 0, 1, 1, 1, 1, 1, 1, 1}, api.ErrBytes},
	{[]byte{8, 0, 255, 255, 255, 255, 255, 255, 255}, api.ErrBytes},
	{[]byte{8, 0, 0, 0, 0, 0, 0, 0, 5}, api.ErrBytes},
	{[]byte{8, 128, 0, 0, 0, 0, 0, 0, 0}, api.ErrBytes},
	{[]byte{8, 128, 0, 0, 0, 0, 0, 0, 5}, api.ErrBytes},
	{[]byte{8, 255, 255, 255, 255, 255, 255, 255, 255}, api.ErrBytes},
	{[]byte{8, 255, 255, 255, 255, 255, 255, 255, 251}, api.ErrBytes},
	{[]byte{2, 1, 0}, api.ErrBytes}, // above 10
	{[]byte{8, 127, 255, 255, 255, 255, 255, 255, 255}, api.ErrBytes},
	{[]byte{9}, api.ErrBytes}, // two errors: the byte is greater than 8, and too few bytes follow
	{[]byte{255, 1}, api.ErrBytes},
	{[]byte{2, 0}, api.ErrShort}, // too few bytes follow, and the first one is 0
	{[]byte{3, 0, 0}, api.ErrShort},
	{[]byte{8, 128, 0, 0, 0, 0, 0, 0}, api.ErrShort}, // too few bytes follow, and the number is too great
	{[]byte{2, 255}, api.ErrShort},
}

// P3.2: what is no number, and the order of the errors; the position stays, also behind something that was read.
func TestReadWrongNumbers(t *testing.T) {
	for _, x := range wrongNumbers {
		for _, before := range []int{0, 1, 4} {
			c := wire.New(append(bytes.Repeat([]byte{0}, before), x.b...))
			for range before {
				c.Number(0, 0)
			}
			if n := c.Number(0, 10); n != 0 || c.Err() != x.want || c.End() != x.want || c.Place() != before {
				t.Errorf("%v: %d, %v, position %d, want %v and %d", x.b, n, c.Err(), c.Place(), x.want, before)
			}
		}
	}
}

// P3.2: bytes that encode nothing are an error whatever the bounds are: none of them lets a number above 2^63 - 1 pass as a negative one.
func TestReadWrongNumbersWideBounds(t *testing.T) {
	for _, b := range [][]byte{
		{9, 1, 1, 1, 1, 1, 1, 1, 1, 1}, {1, 0}, {2, 0, 1}, {8, 128, 0, 0, 0, 0, 0, 0, 0},
		{8, 255, 255, 255, 255, 255, 255, 255, 255}, {8, 0, 1, 1, 1, 1, 1, 1, 1}, {200},
	} {
		for _, least := range []int{math.MinInt64, -1, 0, math.MaxInt64} {
			for _, most := range []int{math.MinInt64, -1, 0, math.MaxInt64} {
				c := wire.New(b)
				if n := c.Number(least, most); n != 0 || c.Err() != api.ErrBytes || c.Place() != 0 {
					t.Errorf("%v with the bounds %d and %d: %d, %v", b, least, most, n, c.Err())
				}
			}
		}
	}
}

// P3.2: bytes that are too few are ErrShort, wherever they end, and whatever the bounds are.
func TestReadShortNumbers(t *testing.T) {
	for _, n := range borders() {
		b := reference(n)
		for size := range len(b) {
			for _, most := range []int{math.MinInt64, -1, 0, n, math.MaxInt64} {
				c := wire.New(b[:size]) // what follows lies in the spare capacity
				if got := c.Number(0, most); got != 0 || c.Err() != api.ErrShort || c.Place() != 0 {
					t.Errorf("%d bytes of %v: %d, %v, position %d", size, b, got, c.Err(), c.Place())
				}
			}
		}
	}
}

// P3.2: strings of all kinds are read; the position is behind them.
func TestReadTexts(t *testing.T) {
	for _, s := range texts() {
		b := append(reference(len(s)), s...)
		for _, most := range []int{len(s), len(s) + 1, math.MaxInt64} {
			c := wire.New(append([]byte{1, 1}, b...))
			if c.Number(1, 1) != 1 || c.Place() != 2 {
				t.Fatal("the number 1 is not read")
			}
			if got := c.Text(most); got != s || c.Err() != api.OK || c.Place() != 2+len(b) || c.End() != api.OK {
				t.Errorf("a string of %d bytes is read as one of %d, %v, position %d", len(s), len(got), c.Err(), c.Place())
			}
		}
	}
}

// P3.2: what is no string, and the order of the errors: first those of its length, then that bytes are missing; the position stays.
func TestReadWrongTexts(t *testing.T) {
	for _, x := range []struct {
		b    []byte
		most int
		want api.Errno
	}{
		{[]byte{1, 2, 97, 98}, 1, api.ErrBytes}, // the chapter's example
		{[]byte{1, 2, 97, 98}, 0, api.ErrBytes},
		{[]byte{1, 2, 97, 98}, -1, api.ErrBytes},
		{[]byte{1, 2, 97, 98}, math.MinInt64, api.ErrBytes},
		{[]byte{0}, -1, api.ErrBytes},
		{[]byte{0}, math.MinInt64, api.ErrBytes},
		{nil, 9, api.ErrShort},
		{nil, -1, api.ErrShort},
		{[]byte{1}, 9, api.ErrShort},
		{[]byte{1}, -1, api.ErrShort},
		{[]byte{2, 1}, 9, api.ErrShort},
		{[]byte{1, 1}, 9, api.ErrShort},
		{[]byte{1, 1}, 1, api.ErrShort},
		{[]byte{1, 3, 97, 98}, 9, api.ErrShort},
		{[]byte{1, 3, 97, 98}, 3, api.ErrShort},
		{[]byte{1, 3, 97, 98}, 2, api.ErrBytes}, // two errors: the length is above most, and bytes are missing
		{[]byte{2, 1, 0, 97}, 255, api.ErrBytes},
		{[]byte{2, 1, 0, 97}, 256, api.ErrShort},
		{[]byte{9, 97, 98}, 9, api.ErrBytes},
		{[]byte{255}, 9, api.ErrBytes},
		{[]byte{1, 0}, 9, api.ErrBytes},
		{[]byte{2, 0, 1, 97}, 9, api.ErrBytes},
		{[]byte{2, 0}, 9, api.ErrShort},
		{[]byte{8, 127, 255, 255, 255, 255, 255, 255, 255, 97}, math.MaxInt64, api.ErrShort},
		{[]byte{8, 127, 255, 255, 255, 255, 255, 255, 246, 97}, math.MaxInt64, api.ErrShort},
		{[]byte{8, 127, 255, 255, 255, 255, 255, 255, 255, 97}, 9, api.ErrBytes},
		{[]byte{8, 128, 0, 0, 0, 0, 0, 0, 0, 97}, math.MaxInt64, api.ErrBytes},
		{[]byte{8, 255, 255, 255, 255, 255, 255, 255, 255, 97}, math.MaxInt64, api.ErrBytes},
	} {
		for _, before := range []int{0, 1, 4} {
			c := wire.New(append(bytes.Repeat([]byte{0}, before), x.b...))
			for range before {
				c.Text(0)
			}
			if s := c.Text(x.most); s != "" || c.Err() != x.want || c.End() != x.want || c.Place() != before {
				t.Errorf("%v, at most %d: %q, %v, position %d, want %v and %d", x.b, x.most, s, c.Err(), c.Place(), x.want, before)
			}
		}
	}
}

// P3.2: the length of a string has the errors of Number, for the same bytes.
func TestReadTextLengthsLikeNumbers(t *testing.T) {
	for _, x := range wrongNumbers {
		c := wire.New(x.b)
		if s := c.Text(10); s != "" || c.Err() != x.want || c.Place() != 0 {
			t.Errorf("%v: %q, %v, position %d, want %v", x.b, s, c.Err(), c.Place(), x.want)
		}
	}
}

// P3.2: bytes that are too few are ErrShort, wherever they end: within the length, or within the string.
func TestReadShortTexts(t *testing.T) {
	for _, n := range []int{1, 2, 9, 255, 256, 300} {
		b := append(reference(n), pattern(n)...)
		for size := range len(b) {
			c := wire.New(b[:size])
			if s := c.Text(n); s != "" || c.Err() != api.ErrShort || c.Place() != 0 {
				t.Errorf("%d bytes of a string of %d: %q, %v, position %d", size, n, s, c.Err(), c.Place())
			}
		}
	}
}

// P3.2, Words: a new cursor has the position 0 and no error; what it is on is not read by that.
func TestNew(t *testing.T) {
	for _, b := range [][]byte{nil, {}, {0}, {9}, {1}, pattern(1000)} {
		c := wire.New(b)
		end := api.OK
		if len(b) > 0 {
			end = api.ErrBytes
		}
		if c.Place() != 0 || c.Err() != api.OK || c.End() != end || c.Err() != api.OK || c.Place() != 0 {
			t.Errorf("on %d bytes: position %d, %v, End %v", len(b), c.Place(), c.Err(), c.End())
		}
	}
}

// P3.2: End is ErrBytes if bytes are left, as often as it is called, and that is no error of the cursor.
func TestEndWithBytesLeft(t *testing.T) {
	c := wire.New([]byte{1, 7, 1, 1, 97, 0})
	for _, x := range []struct {
		read  func()
		place int
		end   api.Errno
	}{
		{func() {}, 0, api.ErrBytes},
		{func() { c.Number(0, 9) }, 2, api.ErrBytes},
		{func() { c.Text(9) }, 5, api.ErrBytes},
		{func() { c.Number(0, 9) }, 6, api.OK},
	} {
		x.read()
		for range 3 {
			if c.End() != x.end || c.Err() != api.OK || c.Place() != x.place {
				t.Errorf("End %v, Err %v, position %d, want %v and %d", c.End(), c.Err(), c.Place(), x.end, x.place)
			}
		}
	}
	if c.Number(0, 9); c.Err() != api.ErrShort || c.End() != api.ErrShort || c.Place() != 6 {
		t.Errorf("behind the end: %v, position %d", c.Err(), c.Place())
	}
}

// P3.2, Words: after an error nothing is read and nothing changes, though the bytes there would do.
func TestCallsAfterAnError(t *testing.T) {
	data := []byte{1, 7, 1, 1, 97, 1, 9}
	for want, fail := range map[api.Errno]func(*wire.Cursor){
		api.ErrBytes:     func(c *wire.Cursor) { c.Number(0, 0) },
		api.ErrShort:     func(c *wire.Cursor) { c.Text(100) },
		api.ErrCred:      func(c *wire.Cursor) { c.Fail(api.ErrCred) },
		api.Errno(-7):    func(c *wire.Cursor) { c.Fail(-7) },
		api.Errno(12345): func(c *wire.Cursor) { c.Fail(12345) },
	} {
		for _, place := range []int{0, 5} {
			c := wire.New(data)
			if place == 5 {
				c.Number(0, 9)
				c.Text(9)
			}
			fail(c)
			for range 2 {
				checkFailed(t, c, want, place)
			}
		}
	}
}

// checkFailed checks that a cursor with an error stays as it is, whatever is called.
func checkFailed(t *testing.T, c *wire.Cursor, want api.Errno, place int) {
	t.Helper()
	if n := c.Number(0, math.MaxInt64); n != 0 {
		t.Errorf("after %v: the number %d", want, n)
	}
	if n := c.Number(5, 3); n != 0 {
		t.Errorf("after %v: the number %d", want, n)
	}
	if s := c.Text(math.MaxInt64) + c.Text(0) + c.Text(-1); s != "" {
		t.Errorf("after %v: the string %q", want, s)
	}
	c.Fail(api.ErrArg)
	c.Fail(api.OK)
	if c.Err() != want || c.End() != want || c.Place() != place {
		t.Errorf("Err %v, End %v, position %d, want %v and %d", c.Err(), c.End(), c.Place(), want, place)
	}
}

// P3.2: Fail sets the error if there is none: the first one stays, and OK is none.
func TestFail(t *testing.T) {
	c := wire.New(nil)
	c.Fail(api.ErrCred)
	c.Fail(api.ErrArg)
	if c.End() != api.ErrCred || c.Err() != api.ErrCred { // the chapter's example
		t.Errorf("End = %v", c.End())
	}
	c = wire.New([]byte{1, 7, 1, 8})
	c.Fail(api.OK)
	if c.Number(0, 9) != 7 || c.Err() != api.OK || c.Place() != 2 {
		t.Error("Fail of OK is an error")
	}
	c.Fail(api.OK)
	c.Fail(api.ErrName)
	c.Fail(api.OK)
	if c.Number(0, 9) != 0 || c.Err() != api.ErrName || c.End() != api.ErrName || c.Place() != 2 {
		t.Errorf("Fail between two numbers: %v, position %d", c.Err(), c.Place())
	}
	c = wire.New([]byte{1, 0})
	c.Number(0, 9)
	c.Fail(api.ErrName)
	c.Fail(api.OK)
	if c.Err() != api.ErrBytes || c.End() != api.ErrBytes {
		t.Errorf("Fail after an error: %v", c.Err())
	}
	c = wire.New([]byte{0})
	c.Number(0, 0)
	c.Fail(api.ErrTag) // at the end, too
	if c.End() != api.ErrTag || c.Place() != 1 {
		t.Errorf("Fail at the end: %v, position %d", c.End(), c.Place())
	}
}

// P3.3: what was encoded is decoded again, whatever follows.
func TestDecodedAgain(t *testing.T) {
	endings := [][]byte{nil, {0}, {1}, {255}, {8, 127}, pattern(20)}
	for _, ending := range endings {
		for _, n := range borders() {
			b := wire.Number([]byte{3, 2}, n)[2:]
			c := wire.New(append(bytes.Clone(b), ending...))
			if got := c.Number(0, math.MaxInt64); got != n || c.Place() != len(b) || c.Err() != api.OK {
				t.Errorf("%d, followed by %v, is decoded as %d, %v", n, ending, got, c.Err())
			}
		}
		for _, s := range texts() {
			b := wire.Text(nil, s)
			c := wire.New(append(bytes.Clone(b), ending...))
			if got := c.Text(len(s)); got != s || c.Place() != len(b) || c.Err() != api.OK {
				t.Errorf("a string of %d bytes, followed by %v, is decoded as one of %d, %v", len(s), ending, len(got), c.Err())
			}
		}
	}
}

// P3.3: a row of numbers and strings, one behind the other, is decoded part by part.
func TestDecodedInARow(t *testing.T) {
	var b []byte
	list := texts()[:18]
	for i, n := range borders() {
		b = wire.Text(wire.Number(b, n), list[i%len(list)])
	}
	c := wire.New(b)
	for i, n := range borders() {
		if got := c.Number(n, n); got != n {
			t.Fatalf("number %d of the row: %d, want %d, %v", i, got, n, c.Err())
		}
		if want := list[i%len(list)]; c.Text(len(want)) != want {
			t.Fatalf("string %d of the row is another one, %v", i, c.Err())
		}
	}
	if c.End() != api.OK || c.Place() != len(b) {
		t.Errorf("at the end of the row: %v, position %d", c.End(), c.Place())
	}
}

// P3.3: whatever bytes are decoded, they are the encoding of what they were decoded to: no other bytes say the same.
func TestNoOtherBytes(t *testing.T) {
	check := func(b []byte) {
		c := wire.New(b)
		if n := c.Number(math.MinInt64, math.MaxInt64); c.Err() == api.OK && !bytes.Equal(b[:c.Place()], wire.Number(nil, n)) {
			t.Errorf("%v are decoded to %d", b, n)
		}
		c = wire.New(b)
		if s := c.Text(math.MaxInt64); c.Err() == api.OK && !bytes.Equal(b[:c.Place()], wire.Text(nil, s)) {
			t.Errorf("%v are decoded to %q", b, s)
		}
	}
	for i := range 1 << 16 {
		check([]byte{byte(i >> 8), byte(i)})
		check([]byte{2, byte(i >> 8), byte(i)})
		check([]byte{byte(i >> 8), 0, byte(i), 5})
	}
	some := []byte{0, 1, 2, 3, 4, 127, 128, 255}
	for i := range 1 << 18 {
		b := make([]byte, 6)
		for j := range b {
			b[j] = some[i>>(3*j)&7]
		}
		check(b)
	}
	for _, n := range borders() { // padded, and with a greater first byte
		number := reference(n)[1:]
		for more := 1; more < 12; more++ {
			padded := append(make([]byte, more), number...)
			check(append([]byte{byte(len(padded))}, padded...))
			check(append([]byte{byte(len(number))}, padded...))
			check(append([]byte{byte(len(number) + more)}, number...))
			check(append([]byte{byte(len(number) + 16*more)}, padded...))
		}
	}
}

// P3.3: of two numbers the greater one never has a shorter encoding, and no two have the same.
func TestGreaterIsNotShorter(t *testing.T) {
	before := wire.Number(nil, 0)
	follow := func(n int) {
		b := wire.Number(nil, n)
		if len(b) < len(before) || bytes.Equal(b, before) {
			t.Errorf("the encoding of %d is %v, that of a lesser number %v", n, b, before)
		}
		if len(b) != 1+(bits.Len64(uint64(n))+7)/8 {
			t.Errorf("the encoding of %d has %d bytes", n, len(b))
		}
		before = b
	}
	for n := 1; n < 70000; n++ {
		follow(n)
	}
	for _, n := range borders() {
		if n >= 70000 {
			follow(n)
		}
	}
}

// R4: neither what is handed in nor its spare capacity, nor what lies ahead of it, changes.
func TestArgumentsStay(t *testing.T) {
	for _, size := range []int{0, 1, 2, 9, 100} {
		whole := pattern(500)
		b := whole[100 : 100+size]
		for _, n := range []int{-1, 0, 1, 300, math.MaxInt64} {
			wire.Number(b, n)
			wire.Number(b[:size:size], n)
		}
		for _, s := range []string{"", "some string", strings.Repeat("long ", 100)} {
			wire.Text(b, s)
			wire.Text(b[:size:size], s)
		}
		c := wire.New(b)
		c.Number(0, math.MaxInt64)
		c.Text(math.MaxInt64)
		c.Fail(api.ErrArg)
		c.End()
		if !bytes.Equal(whole, pattern(500)) {
			t.Errorf("%d bytes: an argument or its spare capacity was changed", size)
		}
	}
}

// R4, P3.2: a cursor is on a copy: it does not change when the bytes that it was made of are written over, nor when more of them come.
func TestCursorIsOnACopy(t *testing.T) {
	for _, spare := range []int{0, 1, 100} {
		data := append(append(reference(300), reference(5)...), "hello"...)
		data = append(append(make([]byte, 0, len(data)+spare), data...), reference(7)...)
		b := data[:len(data):cap(data)]
		c := wire.New(b)
		clear(b[:cap(b)])
		if c.Number(300, 300) != 300 {
			t.Fatalf("the first number changed: %v", c.Err())
		}
		for i := range b[:cap(b)] {
			b[:cap(b)][i] = 255
		}
		if s := c.Text(5); s != "hello" || c.Number(7, 7) != 7 || c.End() != api.OK {
			t.Errorf("the string or the last number changed: %q, %v", s, c.Err())
		}
	}
	short := reference(1 << 20)
	c := wire.New(short[:2]) // the rest of the number lies in the spare capacity, and is none of the cursor's
	if c.Number(0, math.MaxInt64) != 0 || c.Err() != api.ErrShort {
		t.Errorf("the spare capacity was read: %v", c.Err())
	}
}

// R4: results are new memory, with their spare capacity: of no argument, of no other result.
func TestResultsAreNew(t *testing.T) {
	for _, size := range []int{0, 1, 8, 64} {
		for _, spare := range []int{0, 1, 9, 200} {
			whole := pattern(size + spare)
			b := whole[:size]
			for name, call := range map[string]func() []byte{
				"Number 0":   func() []byte { return wire.Number(b, 0) },
				"Number":     func() []byte { return wire.Number(b, 1<<30) },
				"Text":       func() []byte { return wire.Text(b, "text") },
				"Text empty": func() []byte { return wire.Text(b, "") },
			} {
				want := bytes.Clone(call())
				first, second := call(), call()
				full := first[:cap(first)]
				for i := range full {
					full[i] = 170
				}
				if !bytes.Equal(whole, pattern(size+spare)) {
					t.Errorf("%s, %d bytes: the result shares memory with the argument", name, size)
				}
				if !bytes.Equal(second, want) || !bytes.Equal(call(), want) {
					t.Errorf("%s, %d bytes: results share memory", name, size)
				}
			}
		}
	}
}

// R4: nil and empty slices are equivalent.
func TestNilIsEmpty(t *testing.T) {
	for _, b := range [][]byte{nil, {}, make([]byte, 0, 9), pattern(9)[:0]} {
		if !bytes.Equal(wire.Number(b, 256), []byte{2, 1, 0}) || !bytes.Equal(wire.Text(b, "a"), []byte{1, 1, 97}) {
			t.Errorf("behind %v: %v, %v", b, wire.Number(b, 256), wire.Text(b, "a"))
		}
		c := wire.New(b)
		if c.End() != api.OK || c.Number(0, 9) != 0 || c.Err() != api.ErrShort {
			t.Errorf("a cursor on %v: %v", b, c.Err())
		}
	}
}

// R1: no bytes and no bounds make a call panic, and the position stays within the bytes.
func TestAnyBytes(t *testing.T) {
	bounds := []int{math.MinInt64, -1, 0, 1, 200, math.MaxInt64}
	state := uint64(1)
	next := func() int { // the same row in each run
		state = state*6364136223846793005 + 1442695040888963407
		return int(state >> 33)
	}
	for range 100000 {
		b := make([]byte, next()%20)
		for i := range b {
			b[i] = byte(next())
			if next()%2 == 0 {
				b[i] %= 10
			}
		}
		c := wire.New(b)
		for range 6 {
			place := c.Place()
			if next()%2 == 0 {
				c.Number(bounds[next()%6], bounds[next()%6])
			} else {
				c.Text(bounds[next()%6])
			}
			if c.Place() < place || c.Place() > len(b) || c.Err() != api.OK && c.Place() != place {
				t.Fatalf("%v: from the position %d to %d, %v", b, place, c.Place(), c.Err())
			}
		}
	}
}

// R5: cursors depend on their own bytes and calls alone: not on other cursors, nor on calls that run beside.
func TestCursorsAreIndependent(t *testing.T) {
	data := append(reference(1000), append(reference(3), "abc"...)...)
	a, b := wire.New(data), wire.New(data)
	if a.Number(0, 9) != 0 || b.Number(0, 1000) != 1000 || a.Place() != 0 || b.Text(3) != "abc" || b.End() != api.OK || a.End() != api.ErrBytes {
		t.Errorf("two cursors on the same bytes: %v, %v", a.Err(), b.Err())
	}
	var calls sync.WaitGroup
	for k := range 8 {
		calls.Go(func() {
			for i := range 200 {
				n := i*i*37 + k
				c := wire.New(wire.Text(wire.Number(data[:0], n), string(data)))
				if c.Number(n, n) != n || c.Text(len(data)) != string(data) || c.End() != api.OK {
					t.Errorf("%d is decoded in another way beside other calls: %v", n, c.Err())
				}
			}
		})
	}
	calls.Wait()
}
