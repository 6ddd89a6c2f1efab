package nfa_test

import (
	"strings"
	"testing"

	"collimator/api"
	"collimator/nfa"
)

// checkRules expects rules after texts.
func checkRules(t *testing.T, n api.Nfa, want map[string][]int) {
	t.Helper()
	for s, rules := range want {
		checkStates(t, "Run of "+s, nfa.Run(n, s), rules)
	}
}

// The chapter's example.
func TestExample(t *testing.T) {
	n := made(t, trees(t, "a|b", "b")...)
	checkRules(t, n, map[string][]int{"b": {0, 1}, "a": {0}, "ab": nil, "": nil, "c": nil, "bb": nil})
}

// P17.2: Run for automata that were put together by hand.
func TestRunHandmade(t *testing.T) {
	n := handmade()
	checkRules(t, n, map[string][]int{
		"": {0, 3}, "a": {30}, "b": {0, 3, 31}, "c": {0, 3}, "d": nil, "aa": nil, "ab": nil, "ba": {30, 31}, "bb": {0, 3, 31}, "bc": {0, 3},
		"\x00": {0, 2, 3}, "\xff\x80a": {30}, "\x01": nil, "bbbbcba": {30, 31}, "da": nil, "baaaa": {31}, "baaaac\x7f": {0, 2, 3},
	})
	n.First = 5
	checkRules(t, n, map[string][]int{"": {31}, "aaa": {31}, "b": nil, "c": {0, 3}})
	n.First = 7
	checkRules(t, n, map[string][]int{"": {30}, "a": nil, "b": nil})
	n.First = 4
	checkRules(t, n, map[string][]int{"": nil, "?": {0, 2, 3}, "a": nil})
}

// P17.2: each rule once and in ascending order, whatever the order of the states; states without a rule tell nothing.
func TestRunOrder(t *testing.T) {
	n := row(40)
	for i := range 39 {
		n.Edges[39] = append(n.Edges[39], free(i))
		n.Rules[i] = 31 - i%33
	}
	n.First = 39
	var all []int
	for rule := range 32 {
		all = append(all, rule)
	}
	checkStates(t, "Run", nfa.Run(n, ""), all)
	for i := range 39 {
		n.Rules[i] = []int{5, -1, 31, 5, 0}[i%5]
	}
	checkStates(t, "Run", nfa.Run(n, ""), []int{0, 5, 31})
	n.Edges[39][0] = by("x", 2)
	n.Edges[0] = []api.Edge{free(1), free(3)}
	checkStates(t, "Run", nfa.Run(n, "x"), []int{31})
}

// P17.2: one state.
func TestRunOneState(t *testing.T) {
	n := api.Nfa{Edges: make([][]api.Edge, 1), Rules: []int{7}}
	checkRules(t, n, map[string][]int{"": {7}, "a": nil})
	n.Edges[0] = []api.Edge{free(0), by("a", 0)}
	checkRules(t, n, map[string][]int{"": {7}, "a": {7}, strings.Repeat("a", 1000): {7}, "ab": nil, "ba": nil})
	n.Rules[0] = -1
	checkRules(t, n, map[string][]int{"": nil, "a": nil})
}

// P17.2: a rule may end in any state, also in one that a text goes through.
func TestRunThrough(t *testing.T) {
	n := api.Nfa{Edges: [][]api.Edge{{by("a", 1)}, {by("a", 2), free(3)}, {by("a", 0)}, nil}, Rules: []int{1, 0, -1, 0}}
	checkRules(t, n, map[string][]int{"": {1}, "a": {0}, "aa": nil, "aaa": {1}, "aaaa": {0}, "aaaaa": nil})
}

// P17.1, P17.2: each kind of node.
func TestRunKinds(t *testing.T) {
	n := made(t, trees(t, "a", "", "ab", "a|bc|", "(ab)*", "(ab)+", "(ab)?", "[^a]", ".", "a|b|c")...)
	checkRules(t, n, map[string][]int{
		"": {1, 3, 4, 6}, "a": {0, 3, 8, 9}, "b": {7, 8, 9}, "c": {7, 8, 9}, "\n": {7}, "\x00": {7, 8}, "\xff": {7, 8},
		"ab": {2, 4, 5, 6}, "bc": {3}, "abab": {4, 5}, "ababab": {4, 5}, "aba": nil, "ba": nil, "aa": nil, "abb": nil,
	})
}

// repeats are expressions, how often they match the text ab one after the other at least and at most (-1: any number of times).
var repeats = []struct {
	s         string
	low, high int
}{
	{"(ab){0}", 0, 0}, {"(ab){1}", 1, 1}, {"(ab){2}", 2, 2}, {"(ab){5}", 5, 5}, {"(ab){30}", 30, 30},
	{"(ab){0,1}", 0, 1}, {"(ab){0,2}", 0, 2}, {"(ab){1,2}", 1, 2}, {"(ab){2,5}", 2, 5}, {"(ab){0,30}", 0, 30}, {"(ab){29,30}", 29, 30},
	{"(ab){0,}", 0, -1}, {"(ab){1,}", 1, -1}, {"(ab){2,}", 2, -1}, {"(ab){30,}", 30, -1},
	{"(ab)*", 0, -1}, {"(ab)+", 1, -1}, {"(ab)?", 0, 1}, {"((ab)*)*", 0, -1}, {"((ab)+)+", 1, -1}, {"((ab)?){3}", 0, 3}, {"((ab)*){2,3}", 0, -1},
	{"((ab){2}){3}", 6, 6}, {"((ab){1,2}){2,3}", 2, 6}, {"((ab){0}){3,}", 0, 0}, {"(()){7}(ab){3}", 3, 3},
}

// P17.1, P17.2: each form of a repetition, at its bounds and beyond.
func TestRunRepeats(t *testing.T) {
	for _, c := range repeats {
		n := made(t, tree(t, c.s))
		for times := range 34 {
			var want []int
			if times >= c.low && (c.high < 0 || times <= c.high) {
				want = []int{0}
			}
			s := strings.Repeat("ab", times)
			checkStates(t, c.s+" for "+s, nfa.Run(n, s), want)
			checkStates(t, c.s+" for a cut text", nfa.Run(n, s+"a"), nil)
			checkStates(t, c.s+" for a longer text", nfa.Run(n, s+"b"), nil)
		}
	}
}

// P17.1: what a repetition is part of does not let it begin or end elsewhere.
func TestRunNeighbours(t *testing.T) {
	n := made(t, trees(t, "xa*y", "(x|a*)*y", "(a*b*)*", "(a+|b)c?", "(a?){2}b", "x{2,}x", "(x*)(x*)", "(a*|b){2}")...)
	checkRules(t, n, map[string][]int{
		"": {2, 6, 7}, "xy": {0, 1}, "xaay": {0, 1}, "xxy": {1}, "y": {1}, "xax": nil, "axay": {1}, "abba": {2}, "aab": {2, 4, 7}, "aaab": {2, 7},
		"aac": {3}, "bc": {3}, "bbc": nil, "ab": {2, 4, 7}, "b": {2, 3, 4, 7}, "x": {6}, "xx": {6}, "xxx": {5, 6}, "xxxxx": {5, 6}, "bb": {2, 7}, "bab": {2}, "bba": {2},
	})
}

// P17.2: the empty text, and bytes that no edge has.
func TestRunNoEdge(t *testing.T) {
	n := made(t, trees(t, "a*", "a", "\\x00*", "\\xff")...)
	checkRules(t, n, map[string][]int{"": {0, 2}, "\x00": {2}, "\x00\x00": {2}, "\xff": {3}, "\xff\xff": nil, "b": nil, "ba": nil, "ab": nil, "aba": nil, "\x01": nil, "\xfe": nil})
}

// P17.2: long texts.
func TestRunLong(t *testing.T) {
	n := made(t, trees(t, "(ab|[^b])*", "(a|b)*abb", "a{30,}", "(a?){30}")...)
	s := strings.Repeat("ab", 1<<16)
	checkStates(t, "Run", nfa.Run(n, s), []int{0})
	checkStates(t, "Run", nfa.Run(n, s+"b"), []int{1})
	checkStates(t, "Run", nfa.Run(n, strings.Repeat("a", 1<<16)), []int{0, 2})
	checkStates(t, "Run", nfa.Run(n, "bb"+s), nil)
	checkStates(t, "Run", nfa.Run(n, "bb"+s+"\n"), nil)
	checkStates(t, "Run", nfa.Run(n, strings.Repeat("\n", 1<<16)), []int{0})
}

// P17.1, P17.2: an automaton of 2999 states.
func TestRunMostStates(t *testing.T) {
	n := made(t, cat(repeat(0, 30, leaves(49)), leaves(27)), none())
	_, e := nfa.Make([][]api.Node{repeat(30, 30, leaves(50))})
	if e != api.ErrBig {
		t.Errorf("3003 states: %d", e)
	}
	for length := 0; length < 1600; length++ {
		var want []int
		if length == 0 {
			want = []int{1}
		}
		if more := length - 27; more >= 0 && more%49 == 0 && more <= 30*49 {
			want = []int{0}
		}
		if s := strings.Repeat("a", length); length%7 == 0 || want != nil {
			checkStates(t, "Run", nfa.Run(n, s), want)
		}
	}
}
