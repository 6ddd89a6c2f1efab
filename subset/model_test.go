package subset_test

import (
	"fmt"
	"math/rand"
	"reflect"
	"slices"
	"testing"

	"collimator/api"
	"collimator/dfa"
	"collimator/nfa"
	"collimator/regex"
	"collimator/subset"
)

// setOf is the set of the bytes of a text, laid bit by bit.
func setOf(s string) api.Set {
	var a api.Set
	for _, c := range []byte(s) {
		a[c/64] |= 1 << (c % 64)
	}
	return a
}

func has(a api.Set, c byte) bool {
	return a[c/64]>>(c%64)&1 == 1
}

// every is the set of all bytes.
func every() api.Set {
	return api.Set{1<<64 - 1, 1<<64 - 1, 1<<64 - 1, 1<<64 - 1}
}

// free is an edge without a byte.
func free(to int) api.Edge {
	return api.Edge{To: to, Free: true}
}

// by is an edge by each byte of a text.
func by(s string, to int) api.Edge {
	return api.Edge{To: to, Set: setOf(s)}
}

// byAny is an edge by each byte.
func byAny(to int) api.Edge {
	return api.Edge{To: to, Set: every()}
}

// bare is an automaton of some states without edges and rules.
func bare(states int) api.Nfa {
	return api.Nfa{Edges: make([][]api.Edge, states), Rules: slices.Repeat([]int{-1}, states)}
}

// ofSets is an automaton of one state with an edge to itself for each set.
func ofSets(sets ...api.Set) api.Nfa {
	n := bare(1)
	for _, s := range sets {
		n.Edges[0] = append(n.Edges[0], api.Edge{Set: s})
	}
	return n
}

// ofTexts is an automaton of expressions.
func ofTexts(t *testing.T, texts ...string) api.Nfa {
	t.Helper()
	var trees [][]api.Node
	for _, s := range texts {
		l, e, at := regex.Parse(s)
		if e != api.OK {
			t.Fatalf("Parse(%q): %d at %d", s, e, at)
		}
		trees = append(trees, l)
	}
	n, e := nfa.Make(trees)
	if e != api.OK {
		t.Fatalf("Make of %q: %d", texts, e)
	}
	return n
}

// modelClasses gives each byte the class of the first byte that is in the same sets.
func modelClasses(n api.Nfa) ([256]int, int) {
	var class [256]int
	numbers := map[string]int{}
	for c := range class {
		var in []byte
		for _, l := range n.Edges {
			for _, e := range l {
				if !e.Free && has(e.Set, byte(c)) {
					in = append(in, '1')
				} else if !e.Free {
					in = append(in, '0')
				}
			}
		}
		if _, ok := numbers[string(in)]; !ok {
			numbers[string(in)] = len(numbers)
		}
		class[c] = numbers[string(in)]
	}
	return class, len(numbers)
}

// modelMake follows the chapter's sentences one by one.
func modelMake(n api.Nfa) (api.Dfa, api.Errno) {
	if !nfa.Right(n) {
		return api.Dfa{}, api.ErrForm
	}
	var d api.Dfa
	var count int
	d.Class, count = modelClasses(n)
	lists := [][]int{nfa.Closure(n, []int{n.First})}
	numbers := map[string]int{fmt.Sprint(lists[0]): 0}
	for i := 0; i < len(lists); i++ {
		var row []int
		for class := range count {
			next := nfa.Step(n, lists[i], byte(slices.Index(d.Class[:], class)))
			name := fmt.Sprint(next)
			if _, ok := numbers[name]; !ok {
				numbers[name] = len(lists)
				lists = append(lists, next)
			}
			row = append(row, numbers[name])
		}
		d.Next = append(d.Next, row)
		d.Rules = append(d.Rules, modelRule(n, lists[i]))
		if len(lists) > 1000 {
			return api.Dfa{}, api.ErrBig
		}
	}
	return d, api.OK
}

// modelRule is the smallest rule of some states, or -1.
func modelRule(n api.Nfa, states []int) int {
	var rules []int
	for _, s := range states {
		if n.Rules[s] != -1 {
			rules = append(rules, n.Rules[s])
		}
	}
	if len(rules) == 0 {
		return -1
	}
	return slices.Min(rules)
}

// made is the automaton without choices that an automaton has; it is held against the model.
func made(t *testing.T, what string, n api.Nfa) api.Dfa {
	t.Helper()
	d, e := subset.Make(n)
	want, wantError := modelMake(n)
	if e != api.OK || wantError != api.OK {
		t.Fatalf("%s: Make is %d; of the model, %d", what, e, wantError)
	}
	if !dfa.Right(d) {
		t.Errorf("%s: Make is not valid: %v", what, d)
	}
	if !dfa.Same(d, want) {
		t.Errorf("%s: Make is %v; want %v", what, d, want)
	}
	class, count := subset.Classes(n)
	if d.Class != class || len(d.Next[0]) != count {
		t.Errorf("%s: Make has other classes than %v", what, class)
	}
	return d
}

// checkClasses expects classes that are written as an example of each one, in their order, as the chapter and the model tell them.
func checkClasses(t *testing.T, what string, n api.Nfa, examples string) {
	t.Helper()
	class, count := subset.Classes(n)
	want, wantCount := modelClasses(n)
	if class != want || count != wantCount || count != len(examples) {
		t.Errorf("%s: %d classes %v; want %d and %v", what, count, class, wantCount, want)
	}
	for i := range len(examples) {
		if class[examples[i]] != i {
			t.Errorf("%s: the class of %q is %d; want %d", what, examples[i], class[examples[i]], i)
		}
	}
}

// checkFault expects that no automaton is made.
func checkFault(t *testing.T, what string, n api.Nfa, want api.Errno) {
	t.Helper()
	d, e := subset.Make(n)
	if e != want {
		t.Errorf("%s: Make is %d; want %d", what, e, want)
	}
	if !reflect.DeepEqual(d, api.Dfa{}) {
		t.Errorf("%s: Make is %d with the automaton %v", what, e, d)
	}
}

// checkWrong expects of an automaton that is not valid what the chapter says.
func checkWrong(t *testing.T, what string, n api.Nfa) {
	t.Helper()
	if nfa.Right(n) {
		t.Fatalf("%s: valid", what)
	}
	checkFault(t, what, n, api.ErrForm)
	if class, count := subset.Classes(n); class != [256]int{} || count != 0 {
		t.Errorf("%s: %d classes %v", what, count, class)
	}
}

// checkRules expects after a text the smallest rule that nfa.Run returns.
func checkRules(t *testing.T, n api.Nfa, d api.Dfa, s string) {
	t.Helper()
	want := -1
	if rules := nfa.Run(n, s); len(rules) > 0 {
		want = slices.Min(rules)
	}
	if got := dfa.After(d, s); got != want {
		t.Errorf("%v: the rule after %q is %d; want %d", n, s, got, want)
	}
}

// checkLists expects that each state belongs to one list, whatever text leads to it, and that no two states belong to the same list.
func checkLists(t *testing.T, n api.Nfa, d api.Dfa) {
	t.Helper()
	lists := map[int][]int{0: nfa.Closure(n, []int{n.First})}
	for state := range d.Next {
		list, ok := lists[state]
		if !ok {
			t.Fatalf("%v: no text leads to the state %d of %v, or it is not numbered as it is found", n, state, d)
		}
		for class, to := range d.Next[state] {
			next := nfa.Step(n, list, byte(slices.Index(d.Class[:], class)))
			if old, ok := lists[to]; ok && !slices.Equal(old, next) {
				t.Errorf("%v: the state %d of %v belongs to %v and %v", n, to, d, old, next)
			}
			lists[to] = next
		}
	}
	states := map[string]int{}
	for state, list := range lists {
		if other, ok := states[fmt.Sprint(list)]; ok {
			t.Errorf("%v: the states %d and %d of %v belong to %v", n, state, other, d, list)
		}
		states[fmt.Sprint(list)] = state
	}
}

// someAutomaton is a valid automaton of some states, with edges of all kinds, also several between the same states.
func someAutomaton(rng *rand.Rand, states int) api.Nfa {
	n := bare(states)
	n.First = rng.Intn(states)
	for i := range states {
		if rng.Intn(3) == 0 {
			n.Rules[i] = rng.Intn(33) - 1
		}
		for range rng.Intn(4) {
			e := free(rng.Intn(states))
			if rng.Intn(4) > 0 {
				e = by([]string{"", "a", "b", "ab", "bc", "abc", "\x00\xff", "a\xff"}[rng.Intn(8)], e.To)
			}
			if rng.Intn(20) == 0 {
				e = byAny(e.To)
			}
			n.Edges[i] = append(n.Edges[i], e)
		}
	}
	return n
}
