package nfa_test

import (
	"math"
	"math/rand"
	"slices"
	"testing"

	"collimator/api"
	"collimator/nfa"
)

// three is a valid automaton of three states.
func three() api.Nfa {
	return api.Nfa{
		Edges: [][]api.Edge{{{To: 1, Free: true}, {To: 2, Set: setOf("a")}}, {{To: 0, Set: setOf("ab")}}, {{To: 2, Free: true}}},
		Rules: []int{-1, 4, 0},
	}
}

// row is an automaton of some states without edges and rules.
func row(states int) api.Nfa {
	return api.Nfa{Edges: make([][]api.Edge, states), Rules: slices.Repeat([]int{-1}, states)}
}

func checkRight(t *testing.T, what string, n api.Nfa) {
	t.Helper()
	if !nfa.Right(n) || !modelRight(n) {
		t.Errorf("%s: not valid", what)
	}
}

// checkWrong expects that an automaton is not valid, and that nothing is returned for it.
func checkWrong(t *testing.T, what string, n api.Nfa) {
	t.Helper()
	if nfa.Right(n) || modelRight(n) {
		t.Errorf("%s: valid", what)
	}
	for _, states := range [][]int{nil, {}, {0}, {0, 1, 2}, {-1, 5}, {n.First}} {
		checkStates(t, what+": Closure", nfa.Closure(n, states), nil)
		for _, c := range []byte("ab\x00\xff") {
			checkStates(t, what+": Step", nfa.Step(n, states, c), nil)
		}
	}
	for _, s := range []string{"", "a", "b", "ab", "\x00"} {
		checkStates(t, what+": Run", nfa.Run(n, s), nil)
	}
}

// P17.2: 1 to 3000 states.
func TestRightStates(t *testing.T) {
	for _, states := range []int{1, 2, 2999, 3000} {
		checkRight(t, "states", row(states))
	}
	for _, states := range []int{3001, 3002, 100000} {
		checkWrong(t, "too many states", row(states))
	}
	checkWrong(t, "the zero automaton", api.Nfa{})
	checkWrong(t, "no states", row(0))
	for _, first := range []int{-1, 1, math.MaxInt} {
		n := row(0)
		n.First = first
		checkWrong(t, "no states and another first one", n)
	}
}

// P17.2: as many rules as states.
func TestRightLengths(t *testing.T) {
	checkRight(t, "three", three())
	for _, rules := range [][]int{nil, {}, {-1}, {-1, -1}, {-1, -1, -1, -1}, slices.Repeat([]int{-1}, 3000)} {
		n := three()
		n.Rules = rules
		checkWrong(t, "another number of rules", n)
	}
	checkWrong(t, "rules without states", api.Nfa{Rules: []int{0}})
	checkWrong(t, "states without rules", api.Nfa{Edges: make([][]api.Edge, 1)})
}

// P17.2: First is one of the states.
func TestRightFirst(t *testing.T) {
	for first := range 3 {
		n := three()
		n.First = first
		checkRight(t, "a first state", n)
	}
	for _, first := range []int{-1, -2, 3, 4, 3000, 1 << 32, math.MinInt, math.MaxInt} {
		n := three()
		n.First = first
		checkWrong(t, "no first state", n)
	}
	n := row(3000)
	n.First = 2999
	checkRight(t, "the last state is the first one", n)
	n.First = 3000
	checkWrong(t, "a first state behind the last one", n)
}

// P17.2: each edge, Free or not, leads to one of the states.
func TestRightTo(t *testing.T) {
	for from, edges := range three().Edges {
		for i := range edges {
			for to := range 3 {
				n := three()
				n.Edges[from][i].To = to
				checkRight(t, "an edge", n)
			}
			for _, to := range []int{-1, -2, 3, 4, 3000, 1<<32 + 1, math.MinInt, math.MaxInt} {
				n := three()
				n.Edges[from][i].To = to
				checkWrong(t, "an edge to no state", n)
			}
		}
	}
}

// P17.2: a Free edge has an empty set; another edge may have one, too.
func TestRightSets(t *testing.T) {
	for c := range 256 {
		n := three()
		n.Edges[2][0].Set = setOf(string([]byte{byte(c)}))
		checkWrong(t, "a Free edge of a byte", n)
		n.Edges[2][0].Free = false
		checkRight(t, "an edge of a byte", n)
	}
	n := three()
	n.Edges[0][1].Set = setOf("")
	checkRight(t, "an edge of no byte", n)
	n.Edges[0][1].Free = true
	checkRight(t, "two Free edges", n)
	n.Edges[1] = append(n.Edges[1], api.Edge{Free: true}, api.Edge{Free: true, Set: setOf("a")})
	checkWrong(t, "the last edge of several", n)
}

// P17.2: each rule is from -1 to 31.
func TestRightRules(t *testing.T) {
	for state := range 3 {
		for rule := -1; rule < 32; rule++ {
			n := three()
			n.Rules[state] = rule
			checkRight(t, "a rule", n)
		}
		for _, rule := range []int{-2, -3, 32, 33, 64, 1 << 32, math.MinInt, math.MaxInt} {
			n := three()
			n.Rules[state] = rule
			checkWrong(t, "no rule", n)
		}
	}
}

// P17.2: lists without elements may be nil or empty.
func TestRightNil(t *testing.T) {
	checkRight(t, "nil", api.Nfa{Edges: [][]api.Edge{nil, {}}, Rules: []int{0, 1}})
	checkWrong(t, "empty", api.Nfa{Edges: [][]api.Edge{}, Rules: []int{}})
}

// P17.2: many automata with a number changed, against the model.
func TestRightRandom(t *testing.T) {
	rng := rand.New(rand.NewSource(173))
	for range 20000 {
		n := someAutomaton(rng, 1+rng.Intn(6))
		checkRight(t, "an automaton", n)
		i := rng.Intn(len(n.Edges))
		switch edges := n.Edges[i]; {
		case len(edges) > 0 && rng.Intn(3) > 0:
			e := &edges[rng.Intn(len(edges))]
			e.To, e.Free = rng.Intn(len(n.Edges)+2)-1, e.Free != (rng.Intn(4) == 0)
		case rng.Intn(2) == 0:
			n.First = rng.Intn(len(n.Edges)+3) - 1
		default:
			n.Rules[i] = []int{-2, -1, 0, 31, 32}[rng.Intn(5)]
		}
		if modelRight(n) {
			checkRight(t, "a changed automaton", n)
		} else {
			checkWrong(t, "a changed automaton", n)
		}
	}
}
