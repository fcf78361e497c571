package sums_test

import (
	"bytes"
	"sync"
	"testing"

	"livery/sums"
)

// R4: neither what is handed in nor what lies ahead of it or in its spare capacity changes, nor is it retained.
func TestArgumentsStay(t *testing.T) {
	for n := range 100 {
		whole := mixed(int64(n), n+60)
		before := bytes.Clone(whole)
		data := whole[20 : 20+n]
		sum, more := sums.Sum(data), sums.More(77, data)
		if !bytes.Equal(whole, before) {
			t.Errorf("%d bytes: the argument, or what lies about it, was changed", n)
		}
		clear(data)
		if got := sums.Sum(data); got != turned(65535, data) {
			t.Errorf("%d bytes: an earlier content of the argument was told", n)
		}
		if sum != turned(65535, before[20:20+n]) || more != turned(77, before[20:20+n]) {
			t.Errorf("%d bytes: sums %d and %d", n, sum, more)
		}
	}
}

// R4: what Put returns is new memory, with its spare capacity: of no result that it returned before or returns later.
func TestResultsAreNew(t *testing.T) {
	for _, n := range someSums() {
		want := []byte{byte(registerOf(n).number() / 256), byte(registerOf(n).number() % 256)}
		first, second := sums.Put(n), sums.Put(n)
		full := first[:cap(first)]
		for i := range full {
			full[i] ^= 170
		}
		_ = append(first, 1, 2, 3)
		if !bytes.Equal(second, want) {
			t.Errorf("Put(%d): two results share memory", n)
		}
		if got := sums.Put(n); !bytes.Equal(got, want) {
			t.Errorf("Put(%d) = %v after a result was written to, want %v", n, got, want)
		}
		other := sums.Put(n + 1)
		clear(second[:cap(second)])
		if !bytes.Equal(other, sums.Put(n+1)) {
			t.Errorf("Put(%d) and Put(%d) share memory", n, n+1)
		}
	}
}

// R1, R5: results hang on the arguments alone: not on capacities, on calls before, or on calls that run beside.
func TestResultsDependOnArguments(t *testing.T) {
	data := mixed(13, 200)
	var calls sync.WaitGroup
	for k := range 8 {
		calls.Go(func() {
			for i := range 201 {
				n := (i*37 + k*13) % 201
				exact := bytes.Clone(data[:n])
				if want := turned(65535, exact); sums.Sum(data[:n]) != want || sums.Sum(exact[:n:n]) != want {
					t.Errorf("Sum of %d bytes differs from call to call", n)
				}
				if want := turned(i, exact); sums.More(i, data[:n]) != want || sums.More(i, exact[:n:n]) != want {
					t.Errorf("More(%d) of %d bytes differs from call to call", i, n)
				}
			}
		})
	}
	calls.Wait()
}
