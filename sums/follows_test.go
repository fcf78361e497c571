package sums_test

import (
	"bytes"
	"math/rand"
	"testing"

	"livery/sums"
)

// P15.2: bytes that are cut in two at each place.
func TestSumOfTwoParts(t *testing.T) {
	for _, data := range [][]byte{nil, {0}, {255}, []byte("123456789"), mixed(3, 100), make([]byte, 50)} {
		want := sums.Sum(data)
		for n := range len(data) + 1 {
			if got := sums.More(sums.Sum(data[:n]), data[n:]); got != want {
				t.Errorf("More(Sum(%v), %v) = %d, want %d", data[:n], data[n:], got, want)
			}
		}
	}
}

// P15.2: bytes that are cut into three and four parts at all places, and into single bytes.
func TestSumOfMoreParts(t *testing.T) {
	data := mixed(4, 24)
	want := sums.Sum(data)
	for i := range len(data) + 1 {
		for j := i; j <= len(data); j++ {
			three := sums.More(sums.More(sums.Sum(data[:i]), data[i:j]), data[j:])
			if three != want {
				t.Errorf("cut at %d and %d: %d, want %d", i, j, three, want)
			}
			for k := j; k <= len(data); k++ {
				two := sums.More(sums.Sum(data[:i]), data[i:j])
				if four := sums.More(sums.More(two, data[j:k]), data[k:]); four != want {
					t.Errorf("cut at %d, %d and %d: %d, want %d", i, j, k, four, want)
				}
			}
		}
	}
	sum := sums.Sum(nil)
	for i, b := range data {
		sum = sums.More(sum, []byte{b})
		if behind := sums.Sum(data[:i+1]); sum != behind {
			t.Errorf("byte by byte: %d after %d bytes, want %d", sum, i+1, behind)
		}
	}
}

// P15.2: from any other start than 65535 too.
func TestMoreOfTwoParts(t *testing.T) {
	data := mixed(5, 20)
	for _, start := range someSums() {
		want := sums.More(start, data)
		for n := range len(data) + 1 {
			if got := sums.More(sums.More(start, data[:n]), data[n:]); got != want {
				t.Errorf("More from %d, cut at %d: %d, want %d", start, n, got, want)
			}
		}
	}
}

// changed is data with bits changed: of the 16 from the bit at on, counted from the front, those that are 1 in the
// pattern, its highest bit first. What would lie behind the end stays out.
func changed(data []byte, at int, pattern uint16) []byte {
	b := bytes.Clone(data)
	for i := range 16 {
		if place := at + i; pattern>>(15-i)&1 == 1 && place < 8*len(b) {
			b[place/8] ^= 128 >> (place % 8)
		}
	}
	return b
}

// P15.3: all changes whose first bit is any bit of some bytes, and that end within the 16 bits from it on.
func TestEveryShortChange(t *testing.T) {
	for _, data := range [][]byte{{0}, {200}, {0, 0}, {17, 255}, {1, 2, 3}, mixed(6, 5)} {
		was := sums.Sum(data)
		for at := range 8 * len(data) {
			for rest := range 1 << 15 {
				other := changed(data, at, 1<<15|uint16(rest))
				if sums.Sum(other) == was {
					t.Fatalf("Sum(%v) = Sum(%v) = %d", data, other, was)
				}
			}
		}
	}
}

// P15.3: single bits, two neighbours, both ends of 16 bits, whole bytes and all 16, at each bit of longer bytes, from
// the front to the end, with many bytes ahead or behind.
func TestChangesInLongBytes(t *testing.T) {
	patterns := []uint16{0x8000, 0xc000, 0x8001, 0xff00, 0x80ff, 0xffff, 0x8810, 0x8811, 0xa5a5, 0x9021, 0x8408}
	for _, data := range [][]byte{mixed(7, 300), make([]byte, 200), bytes.Repeat([]byte{255}, 200)} {
		was := sums.Sum(data)
		for at := range 8 * len(data) {
			for _, p := range patterns {
				if sums.Sum(changed(data, at, p)) == was {
					t.Errorf("%d bytes: the change %x at bit %d doesn't show", len(data), p, at)
				}
			}
		}
	}
}

// P15.3: by chance, at any place of any bytes.
func TestAnyShortChange(t *testing.T) {
	r := rand.New(rand.NewSource(8))
	for range 5000 {
		data := mixed(r.Int63(), 1+r.Intn(200))
		other := changed(data, r.Intn(8*len(data)), 1<<15|uint16(r.Intn(1<<15)))
		if sums.Sum(data) == sums.Sum(other) {
			t.Errorf("Sum(%v) = Sum(%v)", data, other)
		}
	}
}

// P15.1: of changes that take 17 consecutive bits only one doesn't show, a 1 and behind it the number 4129, with which
// the register is XORed for it.
func TestChangeThatDoesNotShow(t *testing.T) {
	data := mixed(9, 40)
	was := sums.Sum(data)
	for at := range 8*len(data) - 16 {
		for _, rest := range []uint16{4129, 4128, 4131, 4129 ^ 1<<15, 0, 65535, 8259} {
			other := changed(changed(data, at, 1<<15), at+1, rest)
			if same := sums.Sum(other) == was; same != (rest == 4129) {
				t.Errorf("bit %d and %d behind it: the same sum: %t", at, rest, same)
			}
		}
	}
}

// xored is the XOR of three strings of one length.
func xored(a, b, c []byte) []byte {
	x := make([]byte, len(a))
	for i := range x {
		x[i] = a[i] ^ b[i] ^ c[i]
	}
	return x
}

// isXored tells if the XOR of the sums is not the sum of the XOR.
func isXored(t *testing.T, a, b, c []byte) {
	t.Helper()
	if got, want := sums.Sum(xored(a, b, c)), sums.Sum(a)^sums.Sum(b)^sums.Sum(c); got != want {
		t.Errorf("%v, %v and %v: the sum of their XOR is %d, the XOR of their sums %d", a, b, c, got, want)
	}
}

// P15.4: three strings of no bytes, nil or empty, have the XOR 65535.
func TestXorOfNothing(t *testing.T) {
	isXored(t, nil, nil, nil)
	isXored(t, []byte{}, nil, []byte{})
	isXored(t, []byte{}, []byte{}, []byte{})
}

// P15.4: strings of one byte: all pairs, and some third ones.
func TestXorOfBytes(t *testing.T) {
	for a := range 256 {
		for b := range 256 {
			for _, c := range []byte{0, 1, 90, 128, 255} {
				isXored(t, []byte{byte(a)}, []byte{byte(b)}, []byte{c})
			}
		}
	}
}

// P15.4: strings of every length, of all kinds, and the same ones twice and three times.
func TestXorOfStrings(t *testing.T) {
	for n := range 120 {
		seed := int64(3 * n)
		a, b, c := mixed(seed, n), mixed(seed+1, n), mixed(seed+2, n)
		zeros, ones := make([]byte, n), bytes.Repeat([]byte{255}, n)
		for _, x := range [][3][]byte{{a, b, c}, {a, zeros, c}, {zeros, b, ones}, {a, a, b}, {a, a, a}, {zeros, zeros, zeros}, {ones, ones, ones}, {ones, a, zeros}} {
			isXored(t, x[0], x[1], x[2])
		}
	}
	isXored(t, mixed(1, 20000), mixed(2, 20000), mixed(3, 20000))
}

// P15.4: from any other start than 65535 too, since More differs by its start alone.
func TestXorOfMore(t *testing.T) {
	a, b, c := mixed(10, 30), mixed(11, 30), mixed(12, 30)
	for _, start := range someSums() {
		want := sums.More(start, a) ^ sums.More(start, b) ^ sums.More(start, c)
		if got := sums.More(start, xored(a, b, c)); got != want {
			t.Errorf("from %d: %d, want %d", start, got, want)
		}
	}
}
