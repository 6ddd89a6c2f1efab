package subset_test

import (
	"fmt"
	"math"
	"slices"
	"testing"

	"collimator/api"
)

// three is a valid automaton of three states.
func three() api.Nfa {
	return api.Nfa{
		Edges: [][]api.Edge{{by("a", 1), free(2)}, {by("ab", 2), by("", 0)}, {free(2), byAny(0)}},
		First: 1,
		Rules: []int{-1, 31, 0},
	}
}

// strange are numbers that are neither states nor rules.
var strange = []int{-2, -3, 32, 3000, 1 << 32, 1<<32 + 1, math.MinInt, math.MaxInt}

// P19.1, P19.2: automata without states, with too many, and with another number of rules.
func TestWrongLengths(t *testing.T) {
	made(t, "three", three())
	checkWrong(t, "the zero automaton", api.Nfa{})
	checkWrong(t, "no states, empty lists", api.Nfa{Edges: [][]api.Edge{}, Rules: []int{}})
	checkWrong(t, "rules without states", api.Nfa{Rules: []int{0}})
	checkWrong(t, "a state without a rule", api.Nfa{Edges: [][]api.Edge{nil}})
	for _, states := range []int{1, 2, 2999, 3000} {
		made(t, "states without edges", bare(states))
	}
	for _, states := range []int{0, 3001, 3002, 100000} {
		checkWrong(t, "too few or too many states", bare(states))
	}
	for _, rules := range []int{0, 1, 2, 4, 3000, 3001} {
		n := three()
		n.Rules = slices.Repeat([]int{-1}, rules)
		checkWrong(t, "another number of rules", n)
	}
}

// P19.1, P19.2: a First that is no state.
func TestWrongFirst(t *testing.T) {
	for first := range 3 {
		n := three()
		n.First = first
		made(t, "another first state", n)
	}
	for _, first := range append([]int{-1, 3, 4}, strange...) {
		n := three()
		n.First = first
		checkWrong(t, fmt.Sprint("First is ", first), n)
	}
}

// P19.1, P19.2: edges that lead to no state, and Free edges with bytes, at each place.
func TestWrongEdges(t *testing.T) {
	for state := range 3 {
		for i := range 2 {
			for _, to := range append([]int{-1, 3, 4}, strange...) {
				n := three()
				n.Edges[state][i].To = to
				checkWrong(t, fmt.Sprint("an edge to ", to), n)
			}
			for _, s := range []api.Set{setOf("\x00"), setOf("a"), setOf("\x40"), setOf("\x80"), setOf("\xff"), every()} {
				n := three()
				n.Edges[state][i] = api.Edge{Free: true, Set: s}
				checkWrong(t, fmt.Sprint("a Free edge by ", s), n)
			}
			n := three()
			n.Edges[state][i] = free(2)
			made(t, "a Free edge", n)
		}
	}
}

// P19.1, P19.2: rules below -1 and above 31.
func TestWrongRules(t *testing.T) {
	for state := range 3 {
		for rule := -1; rule < 32; rule++ {
			n := three()
			n.Rules[state] = rule
			made(t, "a rule", n)
		}
		for _, rule := range strange {
			n := three()
			n.Rules[state] = rule
			checkWrong(t, fmt.Sprint("the rule ", rule), n)
		}
	}
}

// chain is an automaton of some states, each with an edge by a to the next one. Its lists are these, and the empty one.
func chain(states int) api.Nfa {
	n := bare(states)
	for i := range states - 1 {
		n.Edges[i] = []api.Edge{by("a", i+1)}
	}
	return n
}

// ring is an automaton of some states, each with an edge by all bytes to the next one, and the last one to the first. Its lists are these.
func ring(states int) api.Nfa {
	n := bare(states)
	for i := range states {
		n.Edges[i] = []api.Edge{byAny((i + 1) % states)}
	}
	return n
}

// bushy is an automaton of some states in which each byte leads to a state of its own, as long as there are any. Its lists are these, and the empty one.
func bushy(states int) api.Nfa {
	n := bare(states)
	for i := 1; i < states; i++ {
		from, c := (i-1)/256, byte(i-1)
		n.Edges[from] = append(n.Edges[from], by(string([]byte{c}), i))
		n.Rules[i] = i%33 - 1
	}
	return n
}

// last is an automaton whose lists tell of each of the last bytes whether it was an a: there are 2 to the power of their number.
func last(bytes int) api.Nfa {
	n := bare(bytes + 1)
	n.Edges[0] = []api.Edge{byAny(0), by("a", 1)}
	for i := 1; i < bytes; i++ {
		n.Edges[i] = []api.Edge{byAny(i + 1)}
	}
	return n
}

// P19.2: 1000 states are made, 1001 are too many; the limit is reached by the last state, and within a row.
func TestMostStates(t *testing.T) {
	for _, c := range []struct {
		what string
		n    func(states int) api.Nfa
	}{
		{"a chain", func(states int) api.Nfa { return chain(states - 1) }},
		{"a ring", ring},
		{"a bush", func(states int) api.Nfa { return bushy(states - 1) }},
		{"a ring and a state behind it by the last byte", func(states int) api.Nfa {
			n := ring(states - 1)
			n.Edges[states-2] = append(n.Edges[states-2], by("\xff", states-1))
			n.Edges = append(n.Edges, nil)
			n.Rules = append(n.Rules, 5)
			return n
		}},
	} {
		for _, states := range []int{999, 1000} {
			if d := made(t, c.what, c.n(states)); len(d.Next) != states {
				t.Errorf("%s: %d states; want %d", c.what, len(d.Next), states)
			}
		}
		for _, states := range []int{1001, 1002, 1256, 1300, 3000} {
			checkFault(t, c.what, c.n(states), api.ErrBig)
		}
	}
}

// P19.2: what counts are the lists, not the states that they consist of.
func TestMostLists(t *testing.T) {
	for bytes := 1; bytes < 10; bytes++ {
		if d := made(t, "the last bytes", last(bytes)); len(d.Next) != 1<<bytes {
			t.Errorf("%d last bytes: %d states", bytes, len(d.Next))
		}
	}
	for _, bytes := range []int{10, 11, 20, 63, 64, 1000, 2999} {
		checkFault(t, "the last bytes", last(bytes), api.ErrBig)
	}
	checkFault(t, "an expression", ofTexts(t, "(a|b)*a(a|b){10}"), api.ErrBig)
	if d := made(t, "an expression", ofTexts(t, "(a|b)*a(a|b){8}")); len(d.Next) < 513 {
		t.Errorf("an expression: only %d states", len(d.Next))
	}
	n := ring(3000)
	for i := range 3000 {
		n.Edges[i] = append(n.Edges[i], free((i+1)%3000))
	}
	if d := made(t, "a ring of Free edges", n); len(d.Next) != 1 {
		t.Errorf("a ring of Free edges: %d states", len(d.Next))
	}
	n = ring(3000)
	n.Edges[0] = []api.Edge{byAny(0), by("b", 0)}
	if d := made(t, "a ring that is not entered", n); len(d.Next) != 1 || len(d.Next[0]) != 2 {
		t.Errorf("a ring that is not entered: %d states", len(d.Next))
	}
}

// P19.2: of two errors, the first one in the list.
func TestErrorOrder(t *testing.T) {
	for _, n := range []api.Nfa{chain(1000), ring(1001), bushy(3000), last(10)} {
		checkFault(t, "too large", n, api.ErrBig)
		n.Rules[0] = 32
		checkWrong(t, "too large and not valid", n)
	}
	checkWrong(t, "too large and with too many states", ring(3001))
}
