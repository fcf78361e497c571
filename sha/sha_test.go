package sha_test

import (
	"bytes"
	"crypto/sha256"
	"encoding/hex"
	"strings"
	"sync"
	"testing"

	"livery/sha"
)

// pattern returns n bytes that differ from place to place.
func pattern(n int) []byte {
	b := make([]byte, n)
	for i := range b {
		b[i] = byte(7*i + i/251 + 3)
	}
	return b
}

// P1.1: the chapter's examples, and no bytes at all.
func TestSumExamples(t *testing.T) {
	for text, want := range map[string]string{
		"":    "e3b0c44298fc1c149afbf4c8996fb92427ae41e4649b934ca495991b7852b855",
		"abc": "ba7816bf8f01cfea414140de5dae2223b00361a396177a9cb410ff61f20015ad",
	} {
		got := sha.Sum([]byte(text))
		if len(got) != 32 || sha.Hex(got) != want {
			t.Errorf("Sum(%q) = %x, want %s", text, got, want)
		}
	}
}

// P1.1: so many letters a, about the borders of blocks, and as many as make the length three and four bytes long.
func TestSumBorders(t *testing.T) {
	for n, want := range map[int]string{
		1:       "ca978112ca1bbdcafac231b39a23dc4da786eff8147c4e72b9807785afee48bb",
		55:      "9f4390f8d30c2dd92ec9f095b65e2b9ae9b0a925a5258e241c9f1e910f734318",
		56:      "b35439a4ac6f0948b6d6f9e3c6af0f5f590ce20f1bde7090ef7970686ec6738a",
		57:      "f13b2d724659eb3bf47f2dd6af1accc87b81f09f59f2b75e5c0bed6589dfe8c6",
		63:      "7d3e74a05d7db15bce4ad9ec0658ea98e3f06eeecf16b4c6fff2da457ddc2f34",
		64:      "ffe054fe7ae0cb6dc65c3af9b61d5209f439851db43d0ba5997337df154668eb",
		65:      "635361c48bb9eab14198e76ea8ab7f1a41685d6ad62aa9146d301d4f17eb0ae0",
		119:     "31eba51c313a5c08226adf18d4a359cfdfd8d2e816b13f4af952f7ea6584dcfb",
		120:     "2f3d335432c70b580af0e8e1b3674a7c020d683aa5f73aaaedfdc55af904c21c",
		121:     "e9615320128cc7a3d6078e9af05603188e5ccbf0d07d8b735d3df5e8e0c1281f",
		127:     "c57e9278af78fa3cab38667bef4ce29d783787a2f731d4e12200270f0c32320a",
		128:     "6836cf13bac400e9105071cd6af47084dfacad4e5e302c94bfed24e013afb73e",
		129:     "c12cb024a2e5551cca0e08fce8f1c5e314555cc3fef6329ee994a3db752166ae",
		1000000: "cdc76e5c9914fb9281a1c7e284d73e67f1809a48a497200e046d39ccc7112cd0",
		2097160: "44a415c378a97a2aecb980e2e5a179420cd79690f702d0090ffe046e8da92d4b",
	} {
		if got := sha.Hex(sha.Sum(bytes.Repeat([]byte("a"), n))); got != want {
			t.Errorf("Sum of %d times a = %s, want %s", n, got, want)
		}
	}
}

// P1.1: every length up to some blocks, with bytes of all values, against another implementation.
func TestSumEveryLength(t *testing.T) {
	data := pattern(400)
	for n := range len(data) + 1 {
		want := sha256.Sum256(data[:n])
		if got := sha.Sum(data[:n]); !bytes.Equal(got, want[:]) {
			t.Errorf("Sum of %d bytes = %x, want %x", n, got, want)
		}
	}
}

// P1.1: the digest of a byte is that of this byte, whatever its value.
func TestSumEveryByte(t *testing.T) {
	for i := range 256 {
		data := []byte{byte(i)}
		want := sha256.Sum256(data)
		if got := sha.Sum(data); !bytes.Equal(got, want[:]) {
			t.Errorf("Sum(%d) = %x, want %x", i, got, want)
		}
	}
}

// P1.2: the chapter's example, no bytes, and the order of the digits.
func TestHexExamples(t *testing.T) {
	for _, x := range []struct {
		b    []byte
		want string
	}{
		{nil, ""},
		{[]byte{}, ""},
		{[]byte{0}, "00"},
		{[]byte{0, 171}, "00ab"},
		{[]byte{171, 0}, "ab00"},
		{[]byte{1, 16, 9, 10, 15, 159, 160, 255}, "0110090a0f9fa0ff"},
		{[]byte("ABC\n"), "4142430a"},
	} {
		if got := sha.Hex(x.b); got != x.want {
			t.Errorf("Hex(%v) = %q, want %q", x.b, got, x.want)
		}
	}
}

// P1.2: every byte has its two digits, in the order of the bytes.
func TestHexEveryByte(t *testing.T) {
	const digits = "0123456789abcdef"
	var all []byte
	var want strings.Builder
	for i := range 256 {
		one := digits[i/16:i/16+1] + digits[i%16:i%16+1]
		if got := sha.Hex([]byte{byte(i)}); got != one {
			t.Errorf("Hex(%d) = %q, want %q", i, got, one)
		}
		all = append(all, byte(i))
		want.WriteString(one)
	}
	if got := sha.Hex(all); got != want.String() {
		t.Errorf("Hex of all bytes = %q", got)
	}
	long := pattern(10000)
	if got := sha.Hex(long); got != hex.EncodeToString(long) {
		t.Error("Hex of 10000 bytes")
	}
}

// R4: neither what is handed in nor its spare capacity, nor what lies ahead of it, changes.
func TestArgumentsStay(t *testing.T) {
	for n := range 201 {
		whole := pattern(n + 300)
		before := bytes.Clone(whole)
		data := whole[50 : 50+n]
		sha.Sum(data)
		sha.Hex(data)
		if !bytes.Equal(whole, before) {
			t.Errorf("%d bytes: the argument or its spare capacity was changed", n)
		}
	}
}

// R4: arguments are not retained: what becomes of them later changes no result.
func TestArgumentsAreNotRetained(t *testing.T) {
	for _, n := range []int{1, 32, 55, 56, 63, 64, 65, 119, 120, 128} {
		data := pattern(n)
		want := sha256.Sum256(data)
		digest, text := sha.Sum(data), sha.Hex(data)
		wantText := hex.EncodeToString(data)
		clear(data)
		if !bytes.Equal(digest, want[:]) || text != wantText {
			t.Errorf("%d bytes: a result changed with the argument", n)
		}
		again := sha256.Sum256(data)
		if !bytes.Equal(sha.Sum(data), again[:]) || sha.Hex(data) != hex.EncodeToString(data) {
			t.Errorf("%d bytes: an earlier content of the argument was told", n)
		}
	}
}

// R4: each digest is new memory, with its spare capacity: of no argument, of no other digest, of no later call.
func TestResultsAreNew(t *testing.T) {
	for _, n := range []int{0, 3, 32, 55, 56, 63, 64, 65, 119, 120, 128} {
		data := pattern(n)
		before := bytes.Clone(data)
		want := sha256.Sum256(data)
		first, second := sha.Sum(data), sha.Sum(data)
		full := first[:cap(first)]
		for i := range full {
			full[i] = 170
		}
		if !bytes.Equal(data, before) {
			t.Errorf("%d bytes: the digest shares memory with the argument", n)
		}
		if !bytes.Equal(second, want[:]) {
			t.Errorf("%d bytes: two digests share memory", n)
		}
		if !bytes.Equal(sha.Sum(data), want[:]) {
			t.Errorf("%d bytes: a digest that was written to changed a later one", n)
		}
	}
}

// R4: nil and empty slices are equivalent.
func TestNilIsEmpty(t *testing.T) {
	want := sha256.Sum256(nil)
	for _, data := range [][]byte{nil, {}, make([]byte, 0, 64), pattern(64)[:0]} {
		if got := sha.Sum(data); !bytes.Equal(got, want[:]) {
			t.Errorf("Sum of no bytes = %x, want %x", got, want)
		}
		if got := sha.Hex(data); got != "" {
			t.Errorf("Hex of no bytes = %q", got)
		}
	}
}

// R1, R5: results depend on the bytes alone: not on capacities, on earlier calls, or on calls that run beside.
func TestResultsDependOnArguments(t *testing.T) {
	data := pattern(200)
	var calls sync.WaitGroup
	for k := range 8 {
		calls.Go(func() {
			for i := range 201 {
				n := (i*37 + k*13) % 201
				want := sha256.Sum256(data[:n])
				exact := bytes.Clone(data[:n])
				if !bytes.Equal(sha.Sum(data[:n]), want[:]) || !bytes.Equal(sha.Sum(exact[:n:n]), want[:]) {
					t.Errorf("Sum of %d bytes differs from call to call", n)
				}
				if sha.Hex(data[:n]) != hex.EncodeToString(exact) {
					t.Errorf("Hex of %d bytes differs from call to call", n)
				}
			}
		})
	}
	calls.Wait()
}
