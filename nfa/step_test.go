package nfa_test

import (
	"math"
	"slices"
	"testing"

	"collimator/api"
	"collimator/nfa"
)

// free is an edge without a byte.
func free(to int) api.Edge {
	return api.Edge{To: to, Free: true}
}

// by is an edge by each byte of a text.
func by(s string, to int) api.Edge {
	return api.Edge{To: to, Set: setOf(s)}
}

// handmade is an automaton with a cycle of Free edges (1, 2, 3), one of a single state (5), a Free edge into the cycle (0) and one out of it (to 4), a state that no edge leads to (6), one without edges (7), and several edges between two states.
func handmade() api.Nfa {
	return api.Nfa{
		Edges: [][]api.Edge{
			0: {by("a", 7), free(3)},
			1: {free(2), by("b", 5)},
			2: {free(3), free(3), by("b", 0), by("bc", 0)},
			3: {free(1), free(4)},
			4: {by("\x00\x3f\x40\x7f\x80\xbf\xc0\xff", 6), by("", 1)},
			5: {free(5), by("a", 5), by("c", 2)},
			6: {by("a", 7), free(0)},
			7: nil,
		},
		Rules: []int{-1, 3, 3, 0, -1, 31, 2, 30},
	}
}

// P17.2: the states that are given, and all that Free edges lead to, directly or by others.
func TestClosure(t *testing.T) {
	n := handmade()
	for _, c := range []struct{ states, want []int }{
		{[]int{0}, []int{0, 1, 2, 3, 4}},
		{[]int{1}, []int{1, 2, 3, 4}},
		{[]int{2}, []int{1, 2, 3, 4}},
		{[]int{3}, []int{1, 2, 3, 4}},
		{[]int{4}, []int{4}},
		{[]int{5}, []int{5}},
		{[]int{6}, []int{0, 1, 2, 3, 4, 6}},
		{[]int{7}, []int{7}},
		{[]int{7, 4}, []int{4, 7}},
		{[]int{7, 5, 4, 2}, []int{1, 2, 3, 4, 5, 7}},
		{[]int{7, 6, 5, 4, 3, 2, 1, 0}, []int{0, 1, 2, 3, 4, 5, 6, 7}},
		{nil, nil},
		{[]int{}, nil},
	} {
		checkStates(t, "Closure", nfa.Closure(n, c.states), c.want)
		checkStates(t, "the model", modelClosure(n, c.states), c.want)
	}
}

// P17.2: numbers that are not states are ignored, and a number that is there twice is returned once.
func TestClosureNumbers(t *testing.T) {
	n := handmade()
	for _, c := range []struct{ states, want []int }{
		{[]int{-1}, nil},
		{[]int{8}, nil},
		{[]int{math.MinInt, -1, 8, 9, 3000, 1 << 32, math.MaxInt}, nil},
		{[]int{-1, 7, 8}, []int{7}},
		{[]int{math.MaxInt, 5, math.MinInt, 4}, []int{4, 5}},
		{[]int{7, 7}, []int{7}},
		{[]int{7, 4, 7, 4, 4, 99, 7}, []int{4, 7}},
		{[]int{3, 1, 2, 1, 3, 1}, []int{1, 2, 3, 4}},
		{slices.Repeat([]int{5, 4, -3}, 100000), []int{4, 5}},
	} {
		checkStates(t, "Closure", nfa.Closure(n, c.states), c.want)
	}
}

// P17.2: a long chain of Free edges in each direction, and a state with edges to all others.
func TestClosureLong(t *testing.T) {
	const states = 3000
	up, down, wide := row(states), row(states), row(states)
	var all []int
	for i := range states {
		all = append(all, i)
		if i > 0 {
			up.Edges[i-1] = append(up.Edges[i-1], free(i))
			down.Edges[i] = append(down.Edges[i], free(i-1))
			wide.Edges[1500] = append(wide.Edges[1500], free(states-i), by("a", i))
		}
	}
	checkStates(t, "Closure", nfa.Closure(up, []int{0}), all)
	checkStates(t, "Closure", nfa.Closure(up, []int{2998}), []int{2998, 2999})
	checkStates(t, "Closure", nfa.Closure(down, []int{2999}), all)
	checkStates(t, "Closure", nfa.Closure(down, []int{1}), []int{0, 1})
	checkStates(t, "Closure", nfa.Closure(wide, []int{1500}), all[1:])
	checkStates(t, "Step", nfa.Step(wide, []int{1500}, 'a'), all[1:])
	checkStates(t, "Step", nfa.Step(wide, []int{1499, 1501}, 'a'), nil)
}

// P17.2: the Closure of where a byte leads; Free edges of the given states are not followed first.
func TestStep(t *testing.T) {
	n := handmade()
	for _, x := range []struct {
		states []int
		c      byte
		want   []int
	}{
		{[]int{0}, 'a', []int{7}},
		{[]int{0}, 'b', nil}, // not from 1 and 2, to which Free edges lead
		{[]int{3}, 'b', nil},
		{[]int{6}, 'a', []int{7}},
		{[]int{1}, 'b', []int{5}},
		{[]int{2}, 'b', []int{0, 1, 2, 3, 4}},
		{[]int{2}, 'c', []int{0, 1, 2, 3, 4}},
		{[]int{2}, 'a', nil},
		{[]int{1, 2}, 'b', []int{0, 1, 2, 3, 4, 5}},
		{[]int{5}, 'a', []int{5}},
		{[]int{5}, 'c', []int{1, 2, 3, 4}},
		{[]int{0, 5}, 'a', []int{5, 7}},
		{[]int{7}, 'a', nil},
		{[]int{4}, 'a', nil},
		{[]int{0, 1, 2, 3, 4, 5, 6, 7}, 'd', nil},
		{[]int{0, 1, 2, 3, 4, 5, 6, 7}, 'a', []int{5, 7}},
		{nil, 'a', nil},
		{[]int{}, 'a', nil},
	} {
		checkStates(t, "Step", nfa.Step(n, x.states, x.c), x.want)
		checkStates(t, "the model", modelStep(n, x.states, x.c), x.want)
	}
}

// P17.2: each byte leads along the edges whose set contains it, and along no other edge.
func TestStepBytes(t *testing.T) {
	n := handmade()
	for c := range 256 {
		var want []int
		if slices.Contains([]int{0, 63, 64, 127, 128, 191, 192, 255}, c) {
			want = []int{0, 1, 2, 3, 4, 6}
		}
		checkStates(t, "Step", nfa.Step(n, []int{4}, byte(c)), want)
		one := row(2)
		one.Edges[0] = []api.Edge{by(string([]byte{byte(c)}), 1)}
		for d := range 256 {
			checkParts(t, one, []int{0}, string([]byte{byte(d)}))
		}
	}
}

// P17.2: Step ignores numbers that are not states, and takes the others in any order, also twice.
func TestStepNumbers(t *testing.T) {
	n := handmade()
	for _, c := range []struct{ states, want []int }{
		{[]int{-1}, nil},
		{[]int{8}, nil},
		{[]int{math.MinInt, -1, 8, 3000, 1 << 32, math.MaxInt}, nil},
		{[]int{-1, 0, 8}, []int{7}},
		{[]int{math.MaxInt, 5, 5, math.MinInt, 0, 5}, []int{5, 7}},
		{slices.Repeat([]int{6, 5, -3}, 100000), []int{5, 7}},
	} {
		checkStates(t, "Step", nfa.Step(n, c.states, 'a'), c.want)
	}
}

// R4: the automaton and the numbers are not changed; what is returned is the caller's own.
func TestStepOwn(t *testing.T) {
	n := handmade()
	states := []int{7, 7, 4, 99, 4, 5, -1}[:5]
	for range 2 {
		for _, got := range [][]int{nfa.Closure(n, states), nfa.Step(n, states, 0xff), nfa.Run(n, "c")} {
			full := got[:cap(got)]
			for i := range full {
				full[i] = -5
			}
		}
		if !slices.Equal(states[:7], []int{7, 7, 4, 99, 4, 5, -1}) {
			t.Errorf("the numbers have become %v", states[:7])
		}
		checkSame(t, n, handmade())
	}
	sorted := []int{1, 2, 3, 4}
	nfa.Closure(n, sorted)[0] = 9
	if sorted[0] != 1 {
		t.Error("Closure has returned the list that was passed")
	}
	checkStates(t, "Closure", nfa.Closure(n, sorted), []int{1, 2, 3, 4})
}

func checkSame(t *testing.T, a, b api.Nfa) {
	t.Helper()
	if a.First != b.First || !slices.Equal(a.Rules, b.Rules) || !slices.EqualFunc(a.Edges, b.Edges, slices.Equal) {
		t.Errorf("%v has become %v", b, a)
	}
}
