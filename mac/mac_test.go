package mac_test

import (
	"bytes"
	"crypto/hmac"
	"crypto/sha256"
	"encoding/binary"
	"math"
	"strings"
	"sync"
	"testing"

	"livery/mac"
	"livery/sha"
)

// pattern returns n bytes that differ from place to place.
func pattern(n int) []byte {
	b := make([]byte, n)
	for i := range b {
		b[i] = byte(7*i + i/251 + 3)
	}
	return b
}

// reference returns the tag that another implementation computes.
func reference(key, data []byte) []byte {
	h := hmac.New(sha256.New, key)
	h.Write(data)
	return h.Sum(nil)
}

// referenceKey returns the key that another implementation derives.
func referenceKey(key []byte, label string, n int) []byte {
	data := append([]byte(label), 0)
	return reference(key, binary.BigEndian.AppendUint64(data, uint64(n)))
}

// P2.1: the chapter's example, and known tags: keys shorter than the digest, of 64 bytes' border, and longer.
func TestTagExamples(t *testing.T) {
	for _, x := range []struct {
		key, data []byte
		want      string
	}{
		{[]byte("Jefe"), []byte("what do ya want for nothing?"),
			"5bdcc146bf60754e6a042426089575c75a003f089d2739839dec58b964ec3843"},
		{nil, nil,
			"b613679a0814d9ec772f95d778c35fc5ff1697c493715653c6c712144292c5ad"},
		{bytes.Repeat([]byte{0x0b}, 20), []byte("Hi There"),
			"b0344c61d8db38535ca8afceaf0bf12b881dc200c9833da726e9376c2e32cff7"},
		{bytes.Repeat([]byte{0xaa}, 20), bytes.Repeat([]byte{0xdd}, 50),
			"773ea91e36800e46854db8ebd09181a72959098b3ef8c122d9635514ced565fe"},
		{bytes.Repeat([]byte{0xaa}, 131), []byte("Test Using Larger Than Block-Size Key - Hash Key First"),
			"60e431591ee0b67f0d8a26aacbf5b77f8e0bc6213728c5140546040f0ee37f54"},
	} {
		if got := sha.Hex(mac.Tag(x.key, x.data)); got != x.want {
			t.Errorf("Tag(%q, %q) = %s, want %s", x.key, x.data, got, x.want)
		}
	}
}

// P2.1: the tag by the promise's own words, for a key of three bytes.
func TestTagByItsWords(t *testing.T) {
	padded := append([]byte{1, 54, 200}, make([]byte, 61)...)
	masked := func(x byte) []byte {
		b := bytes.Clone(padded)
		for i := range b {
			b[i] ^= x
		}
		return b
	}
	inner := sha.Sum(append(masked(54), "some bytes"...))
	want := sha.Sum(append(masked(92), inner...))
	if got := mac.Tag([]byte{1, 54, 200}, []byte("some bytes")); !bytes.Equal(got, want) {
		t.Errorf("Tag = %x, want %x", got, want)
	}
}

// P2.1: keys of every length, about the border of 64 bytes and far beyond, against another implementation.
func TestTagEveryKeyLength(t *testing.T) {
	for n := range 301 {
		key := pattern(n)
		for _, data := range [][]byte{nil, []byte("x"), pattern(200)} {
			if got, want := mac.Tag(key, data), reference(key, data); !bytes.Equal(got, want) {
				t.Errorf("a key of %d bytes, %d bytes of data: %x, want %x", n, len(data), got, want)
			}
		}
	}
}

// P2.1: a key of just 64 bytes is not replaced; one of 65 bytes is, by its digest.
func TestTagLongKeys(t *testing.T) {
	data := []byte("data")
	for _, n := range []int{63, 64} {
		key := pattern(n)
		if bytes.Equal(mac.Tag(key, data), mac.Tag(sha.Sum(key), data)) {
			t.Errorf("a key of %d bytes was replaced by its digest", n)
		}
	}
	for _, n := range []int{65, 66, 127, 128, 129, 1000} {
		key := pattern(n)
		if !bytes.Equal(mac.Tag(key, data), mac.Tag(sha.Sum(key), data)) {
			t.Errorf("a key of %d bytes was not replaced by its digest", n)
		}
		if bytes.Equal(mac.Tag(key, data), mac.Tag(key[:64], data)) {
			t.Errorf("a key of %d bytes was cut off", n)
		}
	}
}

// P2.1: keys are padded with bytes 0 behind them, up to 64 bytes and no further.
func TestTagPadding(t *testing.T) {
	data := []byte("data")
	key := pattern(5)
	want := mac.Tag(key, data)
	for n := 5; n <= 64; n++ {
		padded := append(bytes.Clone(key), make([]byte, n-5)...)
		if !bytes.Equal(mac.Tag(padded, data), want) {
			t.Errorf("a key with %d bytes 0 behind it has another tag", n-5)
		}
	}
	if bytes.Equal(mac.Tag(append(bytes.Clone(key), make([]byte, 60)...), data), want) {
		t.Error("a key that is padded to 65 bytes has the same tag")
	}
	if bytes.Equal(mac.Tag(append([]byte{0}, key...), data), want) {
		t.Error("a key with a byte 0 ahead of it has the same tag")
	}
}

// P2.1: data of every length, and much of it, against another implementation.
func TestTagEveryDataLength(t *testing.T) {
	data := pattern(300)
	for n := range len(data) + 1 {
		if got, want := mac.Tag([]byte("key"), data[:n]), reference([]byte("key"), data[:n]); !bytes.Equal(got, want) {
			t.Errorf("%d bytes of data: %x, want %x", n, got, want)
		}
	}
	much := pattern(1 << 20)
	if got, want := mac.Tag([]byte("key"), much), reference([]byte("key"), much); !bytes.Equal(got, want) {
		t.Errorf("2^20 bytes of data: %x, want %x", got, want)
	}
}

// P2.2: the right tag is right, whatever key and parts are.
func TestRightTags(t *testing.T) {
	for _, n := range []int{0, 1, 32, 63, 64, 65, 131} {
		for _, m := range []int{0, 1, 55, 56, 64, 200} {
			key, data := pattern(n), pattern(m)
			if !mac.Right(key, reference(key, data), data) {
				t.Errorf("a key of %d bytes, %d bytes of data: the right tag is not right", n, m)
			}
		}
	}
}

// P2.2, P2.3: a tag with any of its bits turned is not right.
func TestRightTurnedBits(t *testing.T) {
	key, data := []byte("key"), []byte("data")
	for i := range 256 {
		tag := reference(key, data)
		tag[i/8] ^= 1 << (i % 8)
		if mac.Right(key, tag, data) {
			t.Errorf("a tag with bit %d turned is right", i)
		}
	}
	for _, x := range []byte{1, 128, 255} { // differences that cancel each other out
		for i := range 31 {
			tag := reference(key, data)
			tag[i] ^= x
			tag[i+1] ^= x
			if mac.Right(key, tag, data) {
				t.Errorf("a tag with the bytes %d and %d changed alike is right", i, i+1)
			}
		}
	}
	tag := reference(key, data)
	tag[3], tag[4] = tag[4]+1, tag[3]-1
	if mac.Right(key, tag, data) {
		t.Error("a tag with changed bytes of the same sum is right")
	}
}

// P2.2: a right tag is not right for another key, other bytes, more of them, fewer of them, or another order.
func TestRightOtherArguments(t *testing.T) {
	key := []byte("key")
	tag := reference(key, []byte("data"))
	for _, other := range []string{"", "k", "ke", "kex", "key1", "Key"} {
		if mac.Right([]byte(other), tag, []byte("data")) {
			t.Errorf("the tag is right for the key %q", other)
		}
	}
	for _, other := range []string{"", "dat", "ata", "dbta", "data\x00", "\x00data", "atad", "datadata"} {
		if mac.Right(key, tag, []byte(other)) {
			t.Errorf("the tag is right for %q", other)
		}
	}
	if mac.Right(key, tag) || mac.Right(key, tag, []byte("ta"), []byte("da")) || mac.Right(key, tag, []byte("data"), []byte{0}) {
		t.Error("the tag is right for other parts")
	}
}

// P2.3: a tag with a length other than 32 is never right: cut at either end, empty, doubled, with more behind or ahead.
func TestRightOtherLengths(t *testing.T) {
	key, data := []byte("key"), []byte("data")
	tag := reference(key, data)
	for n := range 32 {
		if mac.Right(key, tag[:n], data) || mac.Right(key, tag[32-n:], data) {
			t.Errorf("%d bytes of the tag are right", n)
		}
	}
	for n := 1; n <= 64; n++ {
		if mac.Right(key, append(bytes.Clone(tag), make([]byte, n)...), data) {
			t.Errorf("the tag with %d bytes 0 behind it is right", n)
		}
		if mac.Right(key, append(make([]byte, n), tag...), data) {
			t.Errorf("the tag with %d bytes 0 ahead of it is right", n)
		}
	}
	if mac.Right(key, append(bytes.Clone(tag), tag...), data) {
		t.Error("the tag twice is right")
	}
	for _, none := range [][]byte{nil, {}, tag[:0]} {
		if mac.Right(key, none, data) || mac.Right(nil, none) {
			t.Error("no tag is right")
		}
	}
	if !mac.Right(key, tag[:32:32], data) || !mac.Right(key, append(bytes.Clone(tag), 1, 2, 3)[:32], data) {
		t.Error("the tag's capacity makes a difference")
	}
}

// P2.3: wherever the bytes are divided, also into parts without bytes, the tag is the same.
func TestPartsMakeNoDifference(t *testing.T) {
	for _, size := range []int{0, 1, 2, 63, 64, 65, 130} {
		key, data := pattern(40), pattern(size)
		want := reference(key, data)
		for i := range size + 1 {
			for j := i; j <= size; j += 1 + size/9 {
				for _, parts := range [][][]byte{
					{data[:i], data[i:]},
					{data[:i], data[i:j], data[j:]},
					{nil, data[:i], {}, data[i:j], nil, data[j:], {}},
				} {
					if !bytes.Equal(mac.Tag(key, parts...), want) || !mac.Right(key, want, parts...) {
						t.Fatalf("%d bytes, divided at %d and %d into %d parts, have another tag", size, i, j, len(parts))
					}
				}
			}
		}
	}
}

// P2.3: one byte a part, and the same memory in several parts.
func TestPartsSmallAndShared(t *testing.T) {
	key, data := []byte("key"), pattern(3000)
	var parts [][]byte
	for i := range data {
		parts = append(parts, data[i:i+1])
	}
	want := reference(key, data)
	if !bytes.Equal(mac.Tag(key, parts...), want) || !mac.Right(key, want, parts...) {
		t.Error("parts of one byte have another tag")
	}
	want = reference(data[:100], append(append(bytes.Clone(data[:100]), data[50:150]...), data[:100]...))
	if !bytes.Equal(mac.Tag(data[:100], data[:100], data[50:150], data[:100]), want) {
		t.Error("parts that share memory, with each other and with the key, have another tag")
	}
}

// P2.1, P2.3, R4: no parts, parts without bytes, and nil are the same.
func TestNoParts(t *testing.T) {
	empty := pattern(9)[:0]
	for _, key := range [][]byte{nil, []byte("key"), pattern(64), pattern(65)} {
		want := reference(key, nil)
		for i, parts := range [][][]byte{nil, {}, {nil}, {{}}, {empty}, {nil, {}, empty}} {
			if !bytes.Equal(mac.Tag(key, parts...), want) || !mac.Right(key, want, parts...) {
				t.Errorf("a key of %d bytes: way %d of no bytes has another tag", len(key), i)
			}
		}
		if !bytes.Equal(mac.Tag(key), want) || !mac.Right(key, want) {
			t.Errorf("a key of %d bytes: no parts have another tag", len(key))
		}
	}
}

// P2.1, R4: a key of no bytes is the same as nil, and as one of 64 bytes 0.
func TestNoKey(t *testing.T) {
	want := reference(nil, []byte("data"))
	for _, key := range [][]byte{nil, {}, pattern(9)[:0], make([]byte, 1), make([]byte, 64)} {
		if !bytes.Equal(mac.Tag(key, []byte("data")), want) || !mac.Right(key, want, []byte("data")) {
			t.Errorf("Tag with the key %v differs", key)
		}
		if !bytes.Equal(mac.Key(key, "ab", 1), referenceKey(nil, "ab", 1)) {
			t.Errorf("Key with the key %v differs", key)
		}
	}
}

// P2.2: the chapter's example of a derived key.
func TestKeyExample(t *testing.T) {
	want := mac.Tag([]byte("k"), []byte("ab"), []byte{0, 255, 255, 255, 255, 255, 255, 255, 254})
	if got := mac.Key([]byte("k"), "ab", -2); len(got) != 32 || !bytes.Equal(got, want) {
		t.Errorf("Key = %x, want %x", got, want)
	}
}

// P2.2: numbers of all sizes, the greatest and the least, as eight bytes.
func TestKeyNumbers(t *testing.T) {
	for n, eight := range map[int]string{
		0:                  "\x00\x00\x00\x00\x00\x00\x00\x00",
		1:                  "\x00\x00\x00\x00\x00\x00\x00\x01",
		-1:                 "\xff\xff\xff\xff\xff\xff\xff\xff",
		-256:               "\xff\xff\xff\xff\xff\xff\xff\x00",
		255:                "\x00\x00\x00\x00\x00\x00\x00\xff",
		256:                "\x00\x00\x00\x00\x00\x00\x01\x00",
		1 << 31:            "\x00\x00\x00\x00\x80\x00\x00\x00",
		1 << 32:            "\x00\x00\x00\x01\x00\x00\x00\x00",
		0x0102030405060708: "\x01\x02\x03\x04\x05\x06\x07\x08",
		math.MaxInt64:      "\x7f\xff\xff\xff\xff\xff\xff\xff",
		math.MinInt64:      "\x80\x00\x00\x00\x00\x00\x00\x00",
	} {
		want := reference([]byte("k"), []byte("label\x00"+eight))
		if got := mac.Key([]byte("k"), "label", n); !bytes.Equal(got, want) {
			t.Errorf("Key of %d = %x, want %x", n, got, want)
		}
	}
	for i := range 64 {
		for _, n := range []int{1 << i, 1<<i - 1, -1 << i, -1<<i + 1} {
			if got, want := mac.Key([]byte("k"), "", n), referenceKey([]byte("k"), "", n); !bytes.Equal(got, want) {
				t.Errorf("Key of %d = %x, want %x", n, got, want)
			}
		}
	}
}

// P2.2: labels are taken byte by byte: none, bytes 0, bytes that are no UTF-8, long ones; and keys of all lengths.
func TestKeyLabels(t *testing.T) {
	labels := []string{"", "a", "ab", "ab\x00", "\x00", "\xff\xfe", "é€", strings.Repeat("long ", 100)}
	for _, n := range []int{0, 1, 32, 63, 64, 65, 131} {
		seen := map[string]string{}
		for _, label := range labels {
			got := mac.Key(pattern(n), label, 7)
			if want := referenceKey(pattern(n), label, 7); !bytes.Equal(got, want) {
				t.Errorf("a key of %d bytes, label %q: %x, want %x", n, label, got, want)
			}
			if other, ok := seen[string(got)]; ok {
				t.Errorf("the labels %q and %q have the same key", label, other)
			}
			seen[string(got)] = label
		}
	}
}

// R4: neither what is handed in nor its spare capacity, nor what lies ahead of it, changes; the list of parts neither.
func TestArgumentsStay(t *testing.T) {
	for _, n := range []int{0, 1, 32, 63, 64, 65, 131} {
		whole := pattern(2000)
		before := bytes.Clone(whole)
		key := whole[100 : 100+n]
		tag := whole[400:432]
		list := [][]byte{whole[600:700], nil, whole[800:864], whole[1000:1001], whole[1100:1200]}
		mac.Tag(key, list[:4]...)
		mac.Right(key, tag, list[:4]...)
		mac.Right(key, tag[:31], list[:4]...)
		mac.Key(key, "label", n)
		if !bytes.Equal(whole, before) {
			t.Errorf("a key of %d bytes: an argument or its spare capacity was changed", n)
		}
		for i, p := range [][]byte{whole[600:700], nil, whole[800:864], whole[1000:1001], whole[1100:1200]} {
			if !bytes.Equal(list[i], p) || len(p) > 0 && &list[i][0] != &p[0] {
				t.Errorf("a key of %d bytes: part %d of the list was changed", n, i)
			}
		}
	}
}

// R4: arguments are not retained: what becomes of them later changes no result.
func TestArgumentsAreNotRetained(t *testing.T) {
	for _, n := range []int{1, 32, 63, 64, 65, 131} {
		key, data := pattern(n), pattern(77)
		wantTag, wantKey := reference(key, data), referenceKey(key, "label", n)
		tag, derived := mac.Tag(key, data), mac.Key(key, "label", n)
		clear(key)
		clear(data)
		if !bytes.Equal(tag, wantTag) || !bytes.Equal(derived, wantKey) {
			t.Errorf("a key of %d bytes: a result changed with the arguments", n)
		}
		if !bytes.Equal(mac.Tag(key, data), reference(key, data)) || mac.Right(key, wantTag, data) {
			t.Errorf("a key of %d bytes: an earlier content of the arguments was told", n)
		}
		if !bytes.Equal(mac.Key(key, "label", n), referenceKey(key, "label", n)) {
			t.Errorf("a key of %d bytes: an earlier content of the key was told", n)
		}
	}
}

// R4: each result is new memory, with its spare capacity: of no argument, of no other result, of no later call.
func TestResultsAreNew(t *testing.T) {
	for _, n := range []int{0, 32, 64, 65} {
		key, data := pattern(n), pattern(32)
		keyBefore, dataBefore := bytes.Clone(key), bytes.Clone(data)
		for name, call := range map[string]func() []byte{
			"Tag":         func() []byte { return mac.Tag(key, data) },
			"Tag of none": func() []byte { return mac.Tag(key) },
			"Key":         func() []byte { return mac.Key(key, "label", -1) },
		} {
			want := bytes.Clone(call())
			first, second := call(), call()
			full := first[:cap(first)]
			for i := range full {
				full[i] = 170
			}
			if !bytes.Equal(key, keyBefore) || !bytes.Equal(data, dataBefore) {
				t.Errorf("%s, a key of %d bytes: the result shares memory with an argument", name, n)
			}
			if !bytes.Equal(second, want) || !bytes.Equal(call(), want) {
				t.Errorf("%s, a key of %d bytes: results share memory", name, n)
			}
		}
	}
}

// R1, R5: results depend on the arguments alone: not on capacities, on earlier calls, or on calls that run beside.
func TestResultsDependOnArguments(t *testing.T) {
	bits := pattern(200)
	var calls sync.WaitGroup
	for k := range 8 {
		calls.Go(func() {
			for i := range 100 {
				n, m := (i*37+k*13)%140, (i*53+k*7)%200
				key, data := bits[:n], bits[:m]
				want := reference(key, data)
				exactKey, exactData := bytes.Clone(key), bytes.Clone(data)
				if !bytes.Equal(mac.Tag(key, data), want) || !bytes.Equal(mac.Tag(exactKey[:n:n], exactData[:m:m]), want) {
					t.Errorf("Tag of %d and %d bytes differs from call to call", n, m)
				}
				if !mac.Right(key, want, data) || !bytes.Equal(mac.Key(key, "x", i), referenceKey(key, "x", i)) {
					t.Errorf("Right or Key of %d bytes differs from call to call", n)
				}
			}
		})
	}
	calls.Wait()
}
