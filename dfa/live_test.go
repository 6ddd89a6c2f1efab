package dfa_test

import (
	"math/rand"
	"slices"
	"testing"

	"collimator/api"
	"collimator/dfa"
)

// rowsOf is an automaton of rows, with the bytes from 0 on as classes of their own, and the last class for the others.
func rowsOf(rules []int, rows ...[]int) api.Dfa {
	d := api.Dfa{Next: rows, Rules: rules}
	for c := range 256 {
		d.Class[c] = min(c, len(rows[0])-1)
	}
	return d
}

// P18.3: states with a rule and without, states before and behind such with one, and cycles.
func TestLive(t *testing.T) {
	for _, c := range []struct {
		what string
		d    api.Dfa
		want []bool
	}{
		{"one state without a rule", rowsOf([]int{-1}, []int{0}), []bool{false}},
		{"one state with the first rule", rowsOf([]int{0}, []int{0}), []bool{true}},
		{"one state with the last rule", rowsOf([]int{31}, []int{0}), []bool{true}},
		{"a state behind", rowsOf([]int{-1, 2}, []int{1}, []int{1}), []bool{true, true}},
		{"a state before", rowsOf([]int{2, -1}, []int{1}, []int{1}), []bool{true, false}},
		{"a state before and in a cycle", rowsOf([]int{2, -1}, []int{1}, []int{0}), []bool{true, true}},
		{"two states without a rule in a cycle", rowsOf([]int{-1, -1, 0}, []int{1}, []int{0}, []int{2}), []bool{false, false, true}},
		{"a cycle that a way leads out of", rowsOf([]int{-1, -1, 0}, []int{1, 1}, []int{0, 2}, []int{2, 2}), []bool{true, true, true}},
		{"a cycle behind the only rule", rowsOf([]int{7, -1, -1}, []int{1}, []int{2}, []int{1}), []bool{true, false, false}},
		{"the last class alone leads on", rowsOf([]int{-1, -1, 5, -1}, []int{3, 3, 1}, []int{3, 2, 3}, []int{3, 3, 3}, []int{3, 3, 3}), []bool{true, true, true, false}},
		{"the first class alone leads on", rowsOf([]int{-1, -1, 5, -1}, []int{1, 3, 3}, []int{2, 3, 3}, []int{3, 3, 3}, []int{3, 3, 3}), []bool{true, true, true, false}},
		{"states that the first one does not lead to", rowsOf([]int{-1, -1, 1, -1}, []int{0}, []int{2}, []int{0}, []int{3}), []bool{false, true, true, false}},
		{"each state has a rule", rowsOf([]int{3, 2, 1}, []int{0}, []int{0}, []int{1}), []bool{true, true, true}},
		{"several rules behind", rowsOf([]int{-1, 2, 1, -1}, []int{1, 2}, []int{3, 3}, []int{3, 3}, []int{3, 3}), []bool{true, true, true, false}},
	} {
		checkRight(t, c.what, c.d)
		checkLive(t, c.d, c.want)
		checkLive(t, c.d, modelLive(c.d))
	}
}

// P18.3: a chain as long as an automaton can be, upwards and downwards.
func TestLiveChains(t *testing.T) {
	for _, rule := range []int{0, 1, 500, 998, 999} {
		up, down := wide(1000, 1), wide(1000, 1)
		for state := range 1000 {
			up.Next[state][0] = min(state+1, 999)
			down.Next[state][0] = max(state-1, 0)
		}
		up.Rules[rule], down.Rules[rule] = 0, 31
		before, behind := dfa.Live(up), dfa.Live(down)
		for state := range 1000 {
			if before[state] != (state <= rule) {
				t.Errorf("upwards to the rule of %d, the state %d: %v", rule, state, before[state])
			}
			if behind[state] != (state >= rule) {
				t.Errorf("downwards to the rule of %d, the state %d: %v", rule, state, behind[state])
			}
		}
	}
}

// P18.3: the largest automata, with a way to a rule in one row of one state only, and with ways to everywhere.
func TestLiveLarge(t *testing.T) {
	d := wide(1000, 256)
	checkLive(t, d, make([]bool, 1000))
	d.Rules[999] = 12
	want := make([]bool, 1000)
	want[999] = true
	checkLive(t, d, want)
	d.Next[500][255] = 999
	want[500] = true
	checkLive(t, d, want)
	d.Next[0][17] = 500
	checkLive(t, d, slices.Repeat([]bool{true}, 1000))
	for _, row := range d.Next {
		for i := range row {
			row[i] = i * 3
		}
	}
	checkLive(t, d, want999())
	d.Rules[999], d.Rules[765] = -1, 0
	checkLive(t, d, slices.Repeat([]bool{true}, 1000))
}

// want999 tells of the state 999 of 1000 only.
func want999() []bool {
	want := make([]bool, 1000)
	want[999] = true
	return want
}

// P18.3: nil for automata that are not valid.
func TestLiveWrong(t *testing.T) {
	d := three()
	d.Rules[0] = -2
	checkWrong(t, "a rule below -1", d)
	d = three()
	d.Next[1][1] = 3
	checkWrong(t, "no state", d)
	d = three()
	d.Class['z'] = 4
	checkWrong(t, "a class left out", d)
	checkWrong(t, "too many states", wide(1001, 1))
	checkWrong(t, "no states", api.Dfa{})
}

// P18.3: many automata against the model.
func TestLiveRandom(t *testing.T) {
	rng := rand.New(rand.NewSource(185))
	dead := 0
	for range 5000 {
		d := someDfa(rng, 1+rng.Intn(1<<rng.Intn(7)), 1+rng.Intn(3))
		for state := range d.Rules {
			if rng.Intn(3) > 0 {
				d.Rules[state] = -1
			}
		}
		want := modelLive(d)
		checkLive(t, d, want)
		if slices.Contains(want, false) && slices.Contains(want, true) {
			dead++
		}
	}
	if dead < 1000 {
		t.Errorf("only %d automata with both kinds of states", dead)
	}
}

// P18.3, R4 and R5: what is handed out is the caller's own, with its spare capacity, and what is handed in is not changed.
func TestLiveMemory(t *testing.T) {
	rng := rand.New(rand.NewSource(186))
	for range 500 {
		d := someDfa(rng, 1+rng.Intn(20), 1+rng.Intn(4))
		spare := spacious(d)
		first, second := dfa.Live(d), dfa.Live(d)
		want := slices.Clone(first)
		for i := range first[:cap(first)] {
			first[:cap(first)][i] = !first[:cap(first)][i]
		}
		if !slices.Equal(second, want) || !slices.Equal(dfa.Live(d), want) {
			t.Errorf("%v: Live depends on what was handed out before", d)
		}
		if !spare.kept(d) {
			t.Errorf("%v is changed", d)
		}
	}
}
