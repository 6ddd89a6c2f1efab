package regex_test

import (
	"math"
	"math/rand"
	"slices"
	"testing"

	"collimator/api"
	"collimator/regex"
)

func checkCheck(t *testing.T, l []api.Node) {
	t.Helper()
	if e, want := regex.Check(l), modelCheck(l); e != want {
		t.Errorf("Check of %v is %d; want %d", l, e, want)
	}
}

func checkEnd(t *testing.T, l []api.Node, i int) {
	t.Helper()
	if end, want := regex.End(l, i), modelEnd(l, i); end != want {
		t.Errorf("the end of %v from %d is %d; want %d", l, i, end, want)
	}
}

// checkInvalid expects of a list that it is not a valid tree, and that all functions treat it so (P15.2, P15.3, P15.4).
func checkInvalid(t *testing.T, what string, l []api.Node) {
	t.Helper()
	if e := regex.Check(l); e != api.ErrForm {
		t.Errorf("%s: Check is %d", what, e)
	}
	if s := regex.Show(l); s != "" {
		t.Errorf("%s: Show is %q", what, s)
	}
	if regex.Empty(l) {
		t.Errorf("%s: Empty is true", what)
	}
}

// P15.2: trees that are valid.
func TestCheckValid(t *testing.T) {
	a, e := set("a"), none()
	for _, l := range [][]api.Node{
		a, e, of(between(0, 255)), set("\x00"), set("\xff"), cat(a, a), cat(a, e, a), alt(a, a), alt(e, e, e, e),
		star(a), star(e), plus(a), opt(a), star(star(a)), repeat(0, 0, a), repeat(0, -1, a), repeat(0, 30, a),
		repeat(30, 30, a), repeat(30, -1, a), repeat(29, 30, e), cat(alt(a, e), star(cat(a, a))), repeat(2, 2, alt(a, a)),
	} {
		if c := regex.Check(l); c != api.OK {
			t.Errorf("Check of %v is %d", l, c)
		}
		if end := regex.End(l, 0); end != len(l) {
			t.Errorf("the end of %v is %d", l, end)
		}
	}
}

// P15.2: lists that end too early, and lists with nodes after the tree.
func TestCheckIncomplete(t *testing.T) {
	a := set("a")
	checkInvalid(t, "nil", nil)
	checkInvalid(t, "no nodes", []api.Node{})
	for _, l := range [][]api.Node{a, none(), cat(a, a), alt(a, star(a), a), star(a), repeat(1, 2, cat(a, a))} {
		for n := range len(l) {
			checkInvalid(t, "a cut tree", l[:n])
		}
		checkInvalid(t, "a tree and a node", slices.Concat(l, a))
		checkInvalid(t, "a tree and an empty node", slices.Concat(l, []api.Node{{}}))
		checkInvalid(t, "two trees", slices.Concat(l, l))
	}
}

// P15.2: numbers of children that a kind cannot have. The lists are complete trees.
func TestCheckKids(t *testing.T) {
	valid := [9]int{-1, 0, 0, 2, 2, 1, 1, 1, 1}
	for kind := 1; kind <= 8; kind++ {
		for kids := range 5 {
			x := api.Node{Kind: kind}
			if kind == api.RSet {
				x.Set = among("a")
			}
			l := node(x, times(kids, none()))
			if kids == valid[kind] || kids > 2 && valid[kind] == 2 {
				checkCheck(t, l)
				continue
			}
			checkInvalid(t, "a number of children", l)
			checkInvalid(t, "a number of children below", star(l))
		}
		for _, kids := range []int{-1, -2, math.MinInt, math.MaxInt, math.MaxInt - 1, math.MaxInt32} {
			l := []api.Node{{Kind: kind, Kids: kids}, none()[0], none()[0]}
			checkInvalid(t, "no number of children", l)
			checkInvalid(t, "no number of children", l[:1])
			checkInvalid(t, "no number of children below", star(l))
			checkInvalid(t, "no number of children behind", cat(set("a"), l))
		}
	}
}

// P15.2: kinds that there are not.
func TestCheckKinds(t *testing.T) {
	for _, kind := range []int{0, -1, 9, 10, 256 + 2, 1<<32 + 2, math.MinInt, math.MaxInt} {
		for kids := range 4 {
			l := node(api.Node{Kind: kind}, times(kids, none()))
			checkInvalid(t, "no kind", l)
			checkInvalid(t, "no kind below", opt(l))
			checkInvalid(t, "no kind behind", cat(set("a"), l))
		}
	}
	checkInvalid(t, "a node of zeros", make([]api.Node, 1))
}

// P15.2: an empty set, and fields that a kind does not use.
func TestCheckFields(t *testing.T) {
	checkInvalid(t, "an empty set", []api.Node{{Kind: api.RSet}})
	a := set("a")
	for _, l := range [][]api.Node{a, none(), cat(a, a), alt(a, a), star(a), plus(a), opt(a), repeat(0, 0, a)} {
		kind := l[0].Kind
		for _, n := range []int{1, -1, 30, math.MinInt, math.MaxInt} {
			low, high := slices.Clone(l), slices.Clone(l)
			low[0].Low, high[0].High = n, n
			if kind != api.RRepeat {
				checkInvalid(t, "Low", low)
				checkInvalid(t, "High", high)
				checkInvalid(t, "Low below", star(low))
				checkInvalid(t, "High behind", alt(a, high))
			}
		}
		for word := range 4 {
			full := slices.Clone(l)
			full[0].Set[word] |= 1 << 63
			if kind != api.RSet {
				checkInvalid(t, "Set", full)
				checkInvalid(t, "Set below", plus(full))
			}
		}
	}
}

// P15.2: Low and High at their limits and beyond, and below each other.
func TestCheckBounds(t *testing.T) {
	numbers := []int{math.MinInt, -31, -2, -1, 0, 1, 2, 15, 29, 30, 31, 32, 1 << 32, math.MaxInt}
	for _, low := range numbers {
		for _, high := range numbers {
			l := repeat(low, high, set("a"))
			if low >= 0 && low <= 30 && (high == -1 || high >= low && high <= 30) {
				if e := regex.Check(l); e != api.OK {
					t.Errorf("{%d,%d}: Check is %d", low, high, e)
				}
				continue
			}
			checkInvalid(t, "bounds", l)
			checkInvalid(t, "bounds below", repeat(1, 1, l))
		}
	}
}

// P15.2: End at each index of a tree, below 0, and at and beyond the end.
func TestEnd(t *testing.T) {
	l := alt(set("a"), star(cat(set("b"), none())), repeat(1, 2, set("c")))
	want := []int{8, 2, 6, 6, 5, 6, 8, 8}
	for i, end := range want {
		if got := regex.End(l, i); got != end {
			t.Errorf("the end from %d is %d; want %d", i, got, end)
		}
	}
	for _, i := range []int{-1, -2, math.MinInt, 8, 9, 1 << 40, math.MaxInt} {
		if got := regex.End(l, i); got != -1 {
			t.Errorf("the end from %d is %d", i, got)
		}
	}
	for i := -1; i < 2; i++ {
		if got := regex.End(nil, i); got != -1 {
			t.Errorf("the end of no nodes from %d is %d", i, got)
		}
	}
	for n := range l {
		for i := -1; i <= n+1; i++ {
			checkEnd(t, l[:n], i)
		}
	}
}

// P15.2: End asks for nothing but Kids.
func TestEndKidsOnly(t *testing.T) {
	l := []api.Node{{Kind: -5, Kids: 3, Low: -9, High: 77}, {}, {Kind: 99, Kids: 1}, {Kind: api.RSet}, {Kind: api.RCat}}
	for i, want := range []int{5, 2, 4, 4, 5} {
		if got := regex.End(l, i); got != want {
			t.Errorf("the end from %d is %d; want %d", i, got, want)
		}
	}
	for _, kids := range []int{-1, math.MinInt, 4, 5, math.MaxInt, math.MaxInt - 1, math.MaxInt - 2} {
		bad := slices.Clone(l)
		bad[0].Kids = kids
		if got := regex.End(bad, 0); got != -1 {
			t.Errorf("the end of a node of %d children is %d", kids, got)
		}
		below := []api.Node{{Kids: 2}, {}, {Kids: kids}, {}, {}}
		if got := regex.End(below, 0); got != -1 {
			t.Errorf("the end of a tree with a node of %d children is %d", kids, got)
		}
		if got := regex.End(below, 1); got != 2 {
			t.Errorf("the end of a node ahead of one of %d children is %d", kids, got)
		}
	}
	many := []api.Node{{Kids: math.MaxInt}, {Kids: math.MaxInt}, {Kids: math.MaxInt}, {}}
	if got := regex.End(many, 0); got != -1 {
		t.Errorf("the end of nodes whose numbers of children overflow is %d", got)
	}
}

// P15.2: valid trees with a field changed, against the model.
func TestCheckChanged(t *testing.T) {
	rng := rand.New(rand.NewSource(152))
	for range 20000 {
		l := someTree(rng, 1+rng.Intn(12))
		x := &l[rng.Intn(len(l))]
		switch rng.Intn(5) {
		case 0:
			x.Kind = rng.Intn(11) - 1
		case 1:
			x.Kids = rng.Intn(6) - 1
		case 2:
			x.Set = api.Set{uint64(rng.Intn(2))}
		case 3:
			x.Low = rng.Intn(34) - 2
		case 4:
			x.High = rng.Intn(34) - 2
		}
		checkCheck(t, l)
		checkEmpty(t, l)
		for i := range l {
			checkEnd(t, l, i)
		}
		if s := regex.Show(l); (s == "") != (modelCheck(l) != api.OK) {
			t.Errorf("%v is shown as %q", l, s)
		}
	}
}

// R4: the nodes that are passed are not modified.
func TestArgumentsUnchanged(t *testing.T) {
	l := alt(star(set("ab")), repeat(1, -1, cat(none(), set("c"))))
	spare := append(slices.Clone(l), api.Node{Kind: 77}, api.Node{Kind: 78})
	kept := slices.Clone(spare)
	regex.Check(spare[:len(l)])
	regex.Show(spare[:len(l)])
	regex.Empty(spare[:len(l)])
	regex.End(spare[:len(l)], 0)
	if !slices.Equal(spare, kept) {
		t.Errorf("%v has become %v", kept, spare)
	}
}
