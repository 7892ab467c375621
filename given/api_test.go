// Package given holds what package api has to be: it is given, and isn't to change.
package given

import (
	"math"
	"quietus/api"
	"testing"
)

func TestErrors(t *testing.T) {
	errs := []api.Errno{
		api.OK, api.ErrForm, api.ErrRange, api.ErrNone, api.ErrFull, api.ErrSize,
		api.ErrStale, api.ErrState, api.ErrLong, api.ErrName, api.ErrKey,
	}
	words := []string{"ok", "form", "range", "none", "full", "size", "stale", "state", "long", "name", "key"}
	for i, e := range errs {
		if int(e) != i || e.Word() != words[i] || e.Error() != words[i] {
			t.Errorf("error %d is %d, %q, %q", i, int(e), e.Word(), e.Error())
		}
	}
}

func TestOtherErrors(t *testing.T) {
	for _, e := range []api.Errno{-1, 11, 12, 256, math.MaxInt, math.MinInt} {
		if e.Word() != "other" || e.Error() != "other" {
			t.Errorf("error %d is %q, %q", int(e), e.Word(), e.Error())
		}
	}
}

func TestLimits(t *testing.T) {
	got := []int{api.MaxWorkers, api.MaxCalls, api.MaxNodes, api.MaxBuckets, api.MaxKey, api.MaxCells, api.MaxSteps, api.Writers}
	for i, want := range []int{8, 50, 1024, 65536, 32, 1048576, 200000, 4} {
		if got[i] != want {
			t.Errorf("limit %d is %d, not %d", i, got[i], want)
		}
	}
}
