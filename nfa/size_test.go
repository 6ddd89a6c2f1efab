package nfa_test

import (
	"math/rand"
	"testing"

	"collimator/api"
	"collimator/nfa"
)

func checkSize(t *testing.T, l []api.Node, want int) {
	t.Helper()
	if n := nfa.Size(l); n != want {
		t.Errorf("the size of %v is %d; want %d", l, n, want)
	}
	if n := modelSize(l); n != want {
		t.Errorf("the model of the size of %v is %d; want %d", l, n, want)
	}
}

// P17.1: each kind of node, with children of several sizes.
func TestSizeKinds(t *testing.T) {
	a, e := set("a"), none()
	checkSize(t, a, 2)
	checkSize(t, set("abc\x00\xff"), 2)
	checkSize(t, e, 2)
	checkSize(t, cat(a, e), 4)
	checkSize(t, cat(a, star(a), cat(a, a, a)), 2+4+6)
	checkSize(t, alt(a, e), 6)
	checkSize(t, alt(a, star(a), alt(a, a, a)), 2+2+4+8)
	for _, one := range []func([]api.Node) []api.Node{star, plus, opt} {
		checkSize(t, one(a), 4)
		checkSize(t, one(e), 4)
		checkSize(t, one(cat(a, a)), 6)
		checkSize(t, one(alt(a, a, a)), 10)
		checkSize(t, one(one(one(a))), 8)
	}
}

// P17.1: each form of a repetition, with children of the sizes 2, 6 and 8.
func TestSizeRepeats(t *testing.T) {
	a := set("a")
	for _, c := range []struct{ low, high, k int }{
		{0, 0, 0}, {1, 1, 1}, {2, 2, 2}, {30, 30, 30},
		{0, 1, 1}, {0, 30, 30}, {1, 2, 2}, {2, 5, 5}, {29, 30, 30},
		{0, -1, 1}, {1, -1, 1}, {2, -1, 2}, {3, -1, 3}, {30, -1, 30},
	} {
		checkSize(t, repeat(c.low, c.high, a), 2+2*c.k)
		checkSize(t, repeat(c.low, c.high, cat(a, a, a)), 2+6*c.k)
		checkSize(t, repeat(c.low, c.high, alt(a, none(), a)), 2+8*c.k)
		checkSize(t, star(repeat(c.low, c.high, a)), 4+2*c.k)
		checkSize(t, repeat(2, 3, repeat(c.low, c.high, a)), 2+3*(2+2*c.k))
		checkSize(t, repeat(c.low, c.high, repeat(2, 3, a)), 2+8*c.k)
	}
}

// nested is a chain of repetitions with one byte at its end.
func nested(levels, low, high int) []api.Node {
	l := set("a")
	for range levels {
		l = repeat(low, high, l)
	}
	return l
}

// aboutMost is a tree of the size 999966 and twice some leaves.
func aboutMost(more int) []api.Node {
	deep := repeat(30, 30, repeat(30, 30, repeat(30, 30, leaves(18))))
	flat := repeat(0, 30, repeat(30, -1, leaves(14)))
	return cat(deep, flat, repeat(1, 30, leaves(14)), leaves(more))
}

// P17.1: sizes up to 1000000 are exact; above that, Size is 1000000. All sizes are even.
func TestSizeMost(t *testing.T) {
	checkSize(t, nested(2, 30, 30), 2+30*62)
	checkSize(t, nested(3, 30, 30), 55862)
	checkSize(t, nested(4, 30, 30), 1000000)
	checkSize(t, nested(399, 30, 30), 1000000)
	checkSize(t, nested(399, 30, -1), 1000000)
	checkSize(t, nested(399, 0, -1), 800)
	checkSize(t, aboutMost(16), 999998)
	checkSize(t, aboutMost(17), 1000000)
	checkSize(t, aboutMost(18), 1000000)
	checkSize(t, aboutMost(50), 1000000)
	checkSize(t, star(aboutMost(16)), 1000000)
	checkSize(t, star(aboutMost(17)), 1000000)
	checkSize(t, cat(times(50, nested(6, 0, 30))...), 1000000)
	checkSize(t, alt(times(50, nested(6, 0, 30))...), 1000000)
	checkSize(t, repeat(0, 0, nested(398, 30, 30)), 2)
	checkSize(t, cat(set("a"), repeat(0, 0, aboutMost(99))), 4)
	checkSize(t, leaves(399), 798)
}

// P17.1: what is not a valid tree has the size 0.
func TestSizeInvalid(t *testing.T) {
	for _, l := range invalid() {
		if n := nfa.Size(l); n != 0 {
			t.Errorf("the size of %v is %d", l, n)
		}
	}
	for _, l := range [][]api.Node{set("a"), alt(set("a"), none()), repeat(1, 2, leaves(3))} {
		for i := range l {
			if n := nfa.Size(l[:i]); n != 0 {
				t.Errorf("the size of %v is %d", l[:i], n)
			}
		}
	}
}

// P17.1: many trees, against a model that computes without a limit.
func TestSizeRandom(t *testing.T) {
	rng := rand.New(rand.NewSource(171))
	for range 20000 {
		l := someTree(rng, 1+rng.Intn(1<<rng.Intn(8)))
		checkSize(t, l, modelSize(l))
	}
}
