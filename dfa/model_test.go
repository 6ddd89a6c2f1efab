package dfa_test

import (
	"math/rand"
	"slices"
	"testing"

	"collimator/api"
	"collimator/dfa"
)

// three is a valid automaton of three states and three classes: bytes other than a, b and c, then a and b, then c.
func three() api.Dfa {
	d := api.Dfa{Next: [][]int{{0, 1, 2}, {2, 1, 0}, {2, 2, 2}}, Rules: []int{-1, 4, 0}}
	d.Class['a'], d.Class['b'], d.Class['c'] = 1, 1, 2
	return d
}

// wide is an automaton of some states and classes, in which all states lead to the state 0 and have no rule; the last bytes share the last class.
func wide(states, classes int) api.Dfa {
	d := api.Dfa{Rules: slices.Repeat([]int{-1}, states)}
	for c := range 256 {
		d.Class[c] = min(c, classes-1)
	}
	for range states {
		d.Next = append(d.Next, make([]int, classes))
	}
	return d
}

// copied is an automaton that shares no memory with another one.
func copied(d api.Dfa) api.Dfa {
	d.Rules = slices.Clone(d.Rules)
	rows := make([][]int, len(d.Next))
	for i, row := range d.Next {
		rows[i] = slices.Clone(row)
	}
	d.Next = rows
	return d
}

// someDfa is a valid automaton of some states and classes; most of its states have no rule, and many lead to themselves.
func someDfa(rng *rand.Rand, states, classes int) api.Dfa {
	var d api.Dfa
	d.Class = someClasses(rng, classes)
	for state := range states {
		row := make([]int, classes)
		for i := range row {
			row[i] = rng.Intn(states)
			if rng.Intn(3) == 0 {
				row[i] = state
			}
		}
		rule := -1
		if rng.Intn(4) == 0 {
			rule = rng.Intn(32)
		}
		d.Next = append(d.Next, row)
		d.Rules = append(d.Rules, rule)
	}
	return d
}

// someClasses gives each byte one of some classes, each of which has a byte, in the order of their first bytes.
func someClasses(rng *rand.Rand, classes int) [256]int {
	var class [256]int
	for c := range 256 {
		class[c] = rng.Intn(classes)
		if c < classes {
			class[c] = c
		}
	}
	rng.Shuffle(256, func(i, k int) { class[i], class[k] = class[k], class[i] })
	names := map[int]int{}
	for c, old := range class {
		if _, ok := names[old]; !ok {
			names[old] = len(names)
		}
		class[c] = names[old]
	}
	return class
}

// modelRight follows the chapter's sentence word by word.
func modelRight(d api.Dfa) bool {
	if len(d.Next) < 1 || len(d.Next) > 1000 || len(d.Rules) != len(d.Next) {
		return false
	}
	classes := slices.Max(d.Class[:]) + 1
	last := -1
	for class := range min(classes, 257) {
		first := slices.Index(d.Class[:], class)
		if first <= last {
			return false
		}
		last = first
	}
	if slices.Min(d.Class[:]) != 0 {
		return false
	}
	for i, row := range d.Next {
		if len(row) != classes || slices.Min(row) < 0 || slices.Max(row) >= len(d.Next) || d.Rules[i] < -1 || d.Rules[i] > 31 {
			return false
		}
	}
	return true
}

func modelRun(d api.Dfa, state int, s string) int {
	if s == "" {
		return state
	}
	return modelRun(d, d.Next[state][d.Class[s[0]]], s[1:])
}

// modelLive goes over all states until none is new.
func modelLive(d api.Dfa) []bool {
	live := make([]bool, len(d.Next))
	for i, rule := range d.Rules {
		live[i] = rule >= 0
	}
	for more := true; more; {
		more = false
		for i, row := range d.Next {
			for _, to := range row {
				if live[to] && !live[i] {
					live[i], more = true, true
				}
			}
		}
	}
	return live
}

func checkRight(t *testing.T, what string, d api.Dfa) {
	t.Helper()
	if !dfa.Right(d) || !modelRight(d) {
		t.Errorf("%s: not valid", what)
	}
	if run := dfa.Run(d, ""); run != 0 {
		t.Errorf("%s: Run is %d for the empty text", what, run)
	}
	if live := dfa.Live(d); len(live) != len(d.Next) {
		t.Errorf("%s: Live tells of %d states", what, len(live))
	}
}

// checkWrong expects that an automaton is not valid, and of each function what the chapter says for such ones.
func checkWrong(t *testing.T, what string, d api.Dfa) {
	t.Helper()
	if dfa.Right(d) || modelRight(d) {
		t.Errorf("%s: valid", what)
	}
	if live := dfa.Live(d); live != nil {
		t.Errorf("%s: Live is %v", what, live)
	}
	for _, s := range []string{"", "a", "b", "abc", "\x00", "\xff", "\x00\xff\x80"} {
		if run, after := dfa.Run(d, s), dfa.After(d, s); run != -1 || after != -1 {
			t.Errorf("%s: Run and After %q are %d and %d", what, s, run, after)
		}
	}
	for _, state := range []int{-1, 0, 1, len(d.Next) - 1, len(d.Next)} {
		for _, c := range []byte("abc\x00\xff") {
			if to := dfa.Step(d, state, c); to != -1 {
				t.Errorf("%s: Step from %d by %q is %d", what, state, c, to)
			}
		}
	}
}

// checkText holds Run, After and Step against the model for a text.
func checkText(t *testing.T, d api.Dfa, s string) {
	t.Helper()
	want := modelRun(d, 0, s)
	if got := dfa.Run(d, s); got != want {
		t.Errorf("%v: Run of %q is %d; want %d", d, s, got, want)
	}
	if got := dfa.After(d, s); got != d.Rules[want] {
		t.Errorf("%v: After %q is %d; want %d", d, s, got, d.Rules[want])
	}
	state := 0
	for _, c := range []byte(s) {
		state = dfa.Step(d, state, c)
	}
	if state != want {
		t.Errorf("%v: the steps of %q lead to %d; want %d", d, s, state, want)
	}
}

func checkLive(t *testing.T, d api.Dfa, want []bool) {
	t.Helper()
	if got := dfa.Live(d); !slices.Equal(got, want) {
		t.Errorf("%v: Live is %v; want %v", d, got, want)
	}
}

// checkSame expects Same to answer alike in both orders.
func checkSame(t *testing.T, what string, a, b api.Dfa, want bool) {
	t.Helper()
	if dfa.Same(a, b) != want || dfa.Same(b, a) != want {
		t.Errorf("%s: Same is %v and %v; want %v", what, dfa.Same(a, b), dfa.Same(b, a), want)
	}
}
