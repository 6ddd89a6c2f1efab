package nfa_test

import (
	"math/rand"
	"reflect"
	"slices"
	"testing"

	"collimator/api"
	"collimator/nfa"
)

// checkFault expects that no automaton is made of trees.
func checkFault(t *testing.T, what string, l [][]api.Node, want api.Errno) {
	t.Helper()
	n, e := nfa.Make(l)
	if e != want {
		t.Errorf("%s: Make is %d; want %d", what, e, want)
	}
	if len(n.Edges) != 0 || len(n.Rules) != 0 || n.First != 0 {
		t.Errorf("%s: Make is %d with the automaton %v", what, e, n)
	}
}

// P17.1: no trees, and 31 to 33 of them.
func TestMakeNumbers(t *testing.T) {
	checkFault(t, "nil", nil, api.ErrEmpty)
	checkFault(t, "no trees", [][]api.Node{}, api.ErrEmpty)
	checkFault(t, "33 trees", times(33, set("a")), api.ErrBig)
	checkFault(t, "1000 trees", times(1000, none()), api.ErrBig)
	for _, count := range []int{1, 31, 32} {
		var all []int
		for i := range count {
			all = append(all, i)
		}
		n := made(t, times(count, set("a"))...)
		checkStates(t, "Run", nfa.Run(n, "a"), all)
		checkStates(t, "Run", nfa.Run(n, ""), nil)
		if len(n.Edges) != 1+2*count {
			t.Errorf("%d trees: %d states", count, len(n.Edges))
		}
	}
}

// P17.1: each of 32 trees has the rule of its own number.
func TestMakeEachRule(t *testing.T) {
	var l [][]api.Node
	for i := range 32 {
		l = append(l, plus(set(string([]byte{byte(8 * i)}))))
	}
	n := made(t, l...)
	for i := range 32 {
		c := string([]byte{byte(8 * i)})
		checkStates(t, "Run", nfa.Run(n, c), []int{i})
		checkStates(t, "Run", nfa.Run(n, c+c), []int{i})
		checkStates(t, "Run", nfa.Run(n, c+string([]byte{byte(8*i + 1)})), nil)
	}
}

// P17.1: a tree that is not valid, alone and among others.
func TestMakeInvalid(t *testing.T) {
	a := set("a")
	for _, l := range invalid() {
		checkFault(t, "alone", [][]api.Node{l}, api.ErrForm)
		checkFault(t, "the first one", [][]api.Node{l, a, a}, api.ErrForm)
		checkFault(t, "the second one", [][]api.Node{a, l, a}, api.ErrForm)
		checkFault(t, "the last one", [][]api.Node{a, a, l}, api.ErrForm)
		checkFault(t, "the last one of 32", append(times(31, a), l), api.ErrForm)
	}
}

// P17.1: 2999 states are made, 3001 are too many. There are no 3000, because all sizes are even.
func TestMakeMostStates(t *testing.T) {
	for _, c := range []struct {
		what string
		full func(more int) [][]api.Node
	}{
		{"one tree", func(more int) [][]api.Node {
			return [][]api.Node{cat(repeat(30, 30, leaves(49)), leaves(28+more))}
		}},
		{"two trees", func(more int) [][]api.Node {
			return [][]api.Node{repeat(30, -1, leaves(48)), leaves(58 + more)}
		}},
		{"32 trees", func(more int) [][]api.Node {
			return append(times(31, leaves(46)), alt(leaves(71+more), none()))
		}},
		{"32 trees and the largest first", func(more int) [][]api.Node {
			return append([][]api.Node{star(leaves(72 + more))}, times(31, leaves(46))...)
		}},
	} {
		for _, more := range []int{-2, -1, 0} {
			l := c.full(more)
			if n := made(t, l...); len(n.Edges) != 2999+2*more {
				t.Errorf("%s: %d states; want %d", c.what, len(n.Edges), 2999+2*more)
			}
		}
		for _, more := range []int{1, 2, 10} {
			checkFault(t, c.what, c.full(more), api.ErrBig)
		}
	}
	checkFault(t, "nested repeats", [][]api.Node{nested(399, 30, 30)}, api.ErrBig)
	checkFault(t, "32 trees of nested repeats", times(32, nested(399, 30, 30)), api.ErrBig)
	checkFault(t, "32 trees of 94 states", times(32, leaves(47)), api.ErrBig)
}

// P17.1: of two errors, the first one in the list.
func TestMakeErrorOrder(t *testing.T) {
	big, bad := nested(4, 30, 30), []api.Node{{Kind: api.RCat}}
	checkFault(t, "33 that are not valid", times(33, bad), api.ErrBig)
	checkFault(t, "33 lists without nodes", make([][]api.Node, 33), api.ErrBig)
	checkFault(t, "32 lists without nodes", make([][]api.Node, 32), api.ErrForm)
	checkFault(t, "not valid after too large", [][]api.Node{big, bad}, api.ErrForm)
	checkFault(t, "not valid ahead of too large", [][]api.Node{bad, big}, api.ErrForm)
	checkFault(t, "not valid after 31 too large", append(times(31, big), bad), api.ErrForm)
	checkFault(t, "33 that are too large", times(33, big), api.ErrBig)
}

// P17.1: the number of states is 1 plus the sum of all sizes.
func TestMakeStates(t *testing.T) {
	rng := rand.New(rand.NewSource(172))
	counted := 0
	for range 5000 {
		var l [][]api.Node
		want := 1
		for range 1 + rng.Intn(8) {
			x := someTree(rng, 1+rng.Intn(1<<rng.Intn(6)))
			l = append(l, x)
			want += modelSize(x)
		}
		if want > 3000 {
			checkFault(t, "too large", l, api.ErrBig)
			continue
		}
		counted++
		if n := made(t, l...); len(n.Edges) != want {
			t.Errorf("%v: %d states; want %d", l, len(n.Edges), want)
		}
	}
	if counted < 2500 {
		t.Errorf("only %d automata", counted)
	}
}

// someTrees are some trees of all kinds.
func someTrees() [][]api.Node {
	a, b := set("a"), set("bc")
	return [][]api.Node{
		alt(cat(a, b), none(), star(b)), plus(opt(a)), repeat(2, 5, alt(a, b)), repeat(0, -1, b), repeat(3, -1, cat(a, a)), repeat(0, 0, a), b,
	}
}

// P17.1, R5: equal trees give equal automata, whatever was made before.
func TestMakeEqual(t *testing.T) {
	n := made(t, someTrees()...)
	made(t, set("z"))
	if again := made(t, someTrees()...); !reflect.DeepEqual(n, again) {
		t.Errorf("%v is made again as %v", n, again)
	}
	done := make(chan api.Nfa)
	for range 8 {
		go func() {
			n, _ := nfa.Make(someTrees())
			done <- n
		}()
	}
	for range 8 {
		if again := <-done; !reflect.DeepEqual(n, again) {
			t.Errorf("%v is made at the same time as %v", n, again)
		}
	}
}

// R4: neither the trees nor what is behind them in memory is changed.
func TestMakeArguments(t *testing.T) {
	spare := append(someTrees(), set("y"), nil)
	for i := range spare {
		spare[i] = append(slices.Clip(spare[i]), api.Node{Kind: 70 + i}, api.Node{})[:len(spare[i])]
	}
	kept := snapshot(spare)
	l := spare[:len(spare)-2]
	made(t, l...)
	nfa.Size(l[0])
	checkFault(t, "with what is behind", spare, api.ErrForm)
	if again := snapshot(spare); !reflect.DeepEqual(kept, again) {
		t.Errorf("%v has become %v", kept, again)
	}
}

// snapshot copies lists of nodes with their spare capacity.
func snapshot(l [][]api.Node) [][]api.Node {
	var out [][]api.Node
	for _, x := range l[:cap(l)] {
		out = append(out, slices.Clone(x[:cap(x)]))
	}
	return out
}

// P17.1, R4: an automaton keeps what it is when the trees are changed.
func TestMakeKeepsNothing(t *testing.T) {
	l := someTrees()
	n := made(t, l...)
	for _, x := range l {
		clear(x[:cap(x)])
	}
	clear(l)
	if want := made(t, someTrees()...); !reflect.DeepEqual(n, want) {
		t.Errorf("%v has become %v", want, n)
	}
}

// R4: an automaton is the caller's own: its lists share no memory, and what is written to them is not seen in another automaton.
func TestMakeOwn(t *testing.T) {
	n, want := made(t, someTrees()...), made(t, someTrees()...)
	for i := range n.Edges {
		full := n.Edges[i][:cap(n.Edges[i])]
		for k := range full {
			full[k] = api.Edge{To: -7, Free: true}
		}
		for k := i + 1; k < len(n.Edges); k++ {
			if !slices.Equal(n.Edges[k], want.Edges[k]) {
				t.Fatalf("the edges of %d have changed with those of %d", k, i)
			}
		}
	}
	if !slices.Equal(n.Rules, want.Rules) {
		t.Errorf("the rules have changed with the edges")
	}
	clear(n.Edges[:cap(n.Edges)])
	clear(n.Rules[:cap(n.Rules)])
	if again := made(t, someTrees()...); !reflect.DeepEqual(again, want) {
		t.Errorf("%v is made again as %v", want, again)
	}
}
