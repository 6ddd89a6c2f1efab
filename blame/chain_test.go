package blame

import (
	"errors"
	"testing"

	"collimator/api"
)

func sentinels() []error {
	return []error{errBytes, errCodes, errText, errCapacity, errOther}
}

// Only the sentinel of the innermost link's family is in a chain, although its outer links have codes of all families.
func TestOneSentinelAChain(t *testing.T) {
	for code := api.ErrArg; code <= api.ErrMatch; code++ {
		b := New(code, 1)
		for outer := api.ErrArg; outer <= api.ErrMatch; outer++ {
			b = Under(outer, 2, b)
		}
		for i, s := range sentinels() {
			if errors.Is(b.chain, s) != (b.Family() == i+1) {
				t.Errorf("code %d has family %d and the sentinel of family %d", code, b.Family(), i+1)
			}
		}
	}
	for _, s := range sentinels() {
		if errors.Is(Blame{}.chain, s) {
			t.Errorf("the zero Blame has the sentinel %v", s)
		}
	}
}

// The cause of each link is the next one, and that of the innermost one is the sentinel, which has no cause.
func TestCauses(t *testing.T) {
	b := Under(api.ErrDiffer, 1, Under(api.ErrSum, 0, New(api.ErrCode, 40)))
	var got []error
	for chain := b.chain; chain != nil; chain = errors.Unwrap(chain) {
		got = append(got, chain)
	}
	if len(got) != 4 || got[3] != errCodes {
		t.Fatalf("the chain is %v", got)
	}
	for i, want := range []struct {
		code api.Errno
		at   int
	}{{api.ErrDiffer, 1}, {api.ErrSum, 0}, {api.ErrCode, 40}} {
		var l link
		if !errors.As(got[i], &l) || l.code != want.code || l.at != want.at {
			t.Errorf("link %d is %v; want %v", i, got[i], want)
		}
	}
}
