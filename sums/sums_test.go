package sums_test

import (
	"bytes"
	"math"
	"math/rand"
	"testing"

	"livery/sums"
)

// register is the chapter's, bit by bit, the highest one first.
type register [16]bool

// registerOf holds the lowest 16 bits of n.
func registerOf(n int) register {
	var r register
	for i := range r {
		r[15-i] = uint(n)>>i&1 == 1
	}
	return r
}

// number is what the register holds.
func (r register) number() int {
	n := 0
	for _, bit := range r {
		n *= 2
		if bit {
			n++
		}
	}
	return n
}

// processed is the register after a bit, by the words of the chapter.
func (r register) processed(bit bool) register {
	x := r[0] != bit
	var shifted register
	copy(shifted[:], r[1:])
	if x {
		for i, turned := range registerOf(4129) {
			shifted[i] = shifted[i] != turned
		}
	}
	return shifted
}

// turned is the sum of data by a register that is turned bit by bit, which holds the lowest 16 bits of n at first.
func turned(n int, data []byte) int {
	r := registerOf(n)
	for _, b := range data {
		for _, weight := range []byte{128, 64, 32, 16, 8, 4, 2, 1} {
			r = r.processed(b&weight != 0)
		}
	}
	return r.number()
}

// mixed are n bytes of all values.
func mixed(seed int64, n int) []byte {
	b := make([]byte, n)
	rand.New(rand.NewSource(seed)).Read(b)
	return b
}

// someSums are numbers on which a register may start: negative ones, those of 16 bits, greater ones, the ends of int.
func someSums() []int {
	return []int{
		math.MinInt, math.MinInt + 1, -1 << 32, -65537, -65536, -65535, -32768, -257, -256, -2, -1,
		0, 1, 127, 128, 255, 256, 257, 4129, 10673, 32767, 32768, 65280, 65534, 65535,
		65536, 65537, 131071, 1 << 31, 1<<32 + 10673, math.MaxInt - 1, math.MaxInt,
	}
}

// P15.1: the chapter's examples, and sums that are known.
func TestSumExamples(t *testing.T) {
	for text, want := range map[string]int{
		"":                         65535,
		"123456789":                10673, // hexadecimal 29b1
		"A":                        0xb915,
		"\x00":                     0xe1f0,
		"\xff":                     0xff00,
		"\xff\xff":                 0,
		"\xff\xff\x00":             0, // and then nothing is left that could fall out
		"\xff\xff\x01":             4129,
		"\xff\xff\x02":             8258,
		"\x00\x00":                 0x1d0f,
		"\x00\x00\x00\x00\x00\x00": 0x0e10,
		"abc":                      0x514a,
		"The quick brown fox jumps over the lazy dog": 0x8fdd,
	} {
		if got := sums.Sum([]byte(text)); got != want {
			t.Errorf("Sum(%q) = %d, want %d", text, got, want)
		}
	}
}

// P15.1: no bytes leave the register as it was at first.
func TestSumOfNothing(t *testing.T) {
	for _, none := range [][]byte{nil, {}, mixed(1, 9)[:0], mixed(1, 9)[4:4]} {
		if got := sums.Sum(none); got != 65535 {
			t.Errorf("Sum of no bytes = %d, want 65535", got)
		}
		for _, n := range someSums() {
			if got, want := sums.More(n, none), registerOf(n).number(); got != want {
				t.Errorf("More(%d, none) = %d, want %d", n, got, want)
			}
		}
	}
}

// P15.1: each single byte, and each one behind each of some others.
func TestSumEveryByte(t *testing.T) {
	for i := range 256 {
		one := []byte{byte(i)}
		if got, want := sums.Sum(one), turned(65535, one); got != want {
			t.Errorf("Sum(%v) = %d, want %d", one, got, want)
		}
		for _, ahead := range []byte{0, 1, 7, 128, 200, 255} {
			two := []byte{ahead, byte(i)}
			if got, want := sums.Sum(two), turned(65535, two); got != want {
				t.Errorf("Sum(%v) = %d, want %d", two, got, want)
			}
		}
	}
}

// P15.1: bytes of every length up to some hundreds, and many of them.
func TestSumEveryLength(t *testing.T) {
	data := mixed(15, 400)
	for n := range len(data) + 1 {
		if got, want := sums.Sum(data[:n]), turned(65535, data[:n]); got != want {
			t.Errorf("Sum of %d bytes = %d, want %d", n, got, want)
		}
	}
	for _, long := range [][]byte{mixed(16, 70000), make([]byte, 70000), bytes.Repeat([]byte{255}, 70000)} {
		if got, want := sums.Sum(long), turned(65535, long); got != want {
			t.Errorf("Sum of %d bytes = %d, want %d", len(long), got, want)
		}
	}
}

// P15.1: bytes in another order have another sum.
func TestSumOrder(t *testing.T) {
	for _, x := range [][2]string{{"ab", "ba"}, {"123456789", "123456798"}, {"\x00\x01", "\x01\x00"}, {"\x0f", "\xf0"}, {"\x01", "\x80"}} {
		a, b := sums.Sum([]byte(x[0])), sums.Sum([]byte(x[1]))
		if a == b {
			t.Errorf("Sum(%q) = Sum(%q) = %d", x[0], x[1], a)
		}
	}
}

// P15.1: the example of More, and what is spelt out.
func TestMoreExamples(t *testing.T) {
	for _, x := range []struct {
		sum  int
		data string
		want int
	}{
		{-1, "", 65535},
		{0, "", 0},
		{65535, "", 65535},
		{65536, "", 0},
		{131071, "", 65535},
		{math.MinInt, "", 0},
		{math.MaxInt, "", 65535},
		{65535, "123456789", 10673},
		{-1, "123456789", 10673},
		{math.MaxInt, "123456789", 10673},
		{0, "123456789", 0x31c3},
		{65536, "123456789", 0x31c3},
		{math.MinInt, "123456789", 0x31c3},
		{0x1d0f, "123456789", 0xe5cc},
		{0, "\x00\x00\x00", 0},
		{0, "\x01", 4129},
		{0, "\x02", 8258},
		{256, "\x00", 4129}, // the lowest bit of the higher byte falls out at the eighth bit
		{256, "\x01", 0},
		{32768, "\x80", 0},
		{1, "\x00", 256},
		{255, "\x00", 65280},
	} {
		if got := sums.More(x.sum, []byte(x.data)); got != x.want {
			t.Errorf("More(%d, %q) = %d, want %d", x.sum, x.data, got, x.want)
		}
	}
}

// P15.1: from each of the sums, and from all of 16 bits.
func TestMoreFromEverySum(t *testing.T) {
	for _, n := range someSums() {
		for _, size := range []int{1, 2, 3, 17, 64} {
			data := mixed(int64(size), size)
			if got, want := sums.More(n, data), turned(n, data); got != want {
				t.Errorf("More(%d, %v) = %d, want %d", n, data, got, want)
			}
		}
	}
	for n := range 65536 {
		data := []byte{byte(n * 7)}
		if got, want := sums.More(n, data), turned(n, data); got != want {
			t.Fatalf("More(%d, %v) = %d, want %d", n, data, got, want)
		}
	}
}

// P15.1: what is above the lowest 16 bits doesn't count.
func TestMoreTakesTheLowestBits(t *testing.T) {
	for _, low := range []int{0, 1, 255, 256, 10673, 32768, 65535} {
		for _, above := range []int{1, 2, 255, 1 << 15, 1 << 16, 1 << 40, -1, -2, math.MinInt >> 16, math.MaxInt >> 16} {
			n := above<<16 | low
			for _, data := range [][]byte{nil, {0}, {255, 3}, mixed(2, 40)} {
				if got, want := sums.More(n, data), sums.More(low, data); got != want {
					t.Errorf("More(%d, %v) = %d, want %d as for %d", n, data, got, want, low)
				}
			}
			if got, want := sums.Put(n), sums.Put(low); !bytes.Equal(got, want) {
				t.Errorf("Put(%d) = %v, want %v as for %d", n, got, want, low)
			}
		}
	}
}

// P15.1: the example of Put, and what is spelt out: the higher byte is first.
func TestPutExamples(t *testing.T) {
	for n, want := range map[int][]byte{
		10673:           {41, 177},
		0:               {0, 0},
		1:               {0, 1},
		127:             {0, 127},
		128:             {0, 128},
		255:             {0, 255},
		256:             {1, 0},
		257:             {1, 1},
		32767:           {127, 255},
		32768:           {128, 0},
		65280:           {255, 0},
		65535:           {255, 255},
		65536:           {0, 0},
		65537:           {0, 1},
		65792:           {1, 0},
		131071:          {255, 255},
		1<<32 + 10673:   {41, 177},
		-1:              {255, 255},
		-2:              {255, 254},
		-256:            {255, 0},
		-257:            {254, 255},
		-65535:          {0, 1},
		-65536:          {0, 0},
		-65537:          {255, 255},
		math.MinInt:     {0, 0},
		math.MinInt + 1: {0, 1},
		math.MaxInt:     {255, 255},
		math.MaxInt - 1: {255, 254},
	} {
		if got := sums.Put(n); !bytes.Equal(got, want) {
			t.Errorf("Put(%d) = %v, want %v", n, got, want)
		}
	}
}

// P15.1: every number of 16 bits has its own two bytes.
func TestPutEverySum(t *testing.T) {
	for n := range 65536 {
		got := sums.Put(n)
		if len(got) != 2 || 256*int(got[0])+int(got[1]) != n {
			t.Fatalf("Put(%d) = %v", n, got)
		}
	}
}
