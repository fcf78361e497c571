// Package rules tests what holds in all layers.
package rules

import (
	"errors"
	"math"
	"testing"

	"livery/api"
)

// R6, and the section 'Errors': an error's text has its number in decimal, without leading zeros.
func TestErrorTexts(t *testing.T) {
	for e, want := range map[api.Errno]string{
		api.OK:                   "error 0",
		api.ErrShort:             "error 3",
		api.ErrName:              "error 10",
		api.ErrTag:               "error 20",
		api.ErrScript:            "error 52",
		api.Errno(100):           "error 100",
		api.Errno(math.MaxInt64): "error 9223372036854775807",
		api.Errno(-1):            "error",
		api.Errno(math.MinInt64): "error",
	} {
		if got := e.Error(); got != want {
			t.Errorf("error %d has the text %q, want %q", int(e), got, want)
		}
	}
	if !errors.Is(api.ErrDown, api.Errno(40)) {
		t.Error("ErrDown is not the error 40")
	}
}
