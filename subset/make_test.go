package subset_test

import (
	"fmt"
	"reflect"
	"slices"
	"testing"

	"collimator/api"
	"collimator/dfa"
	"collimator/nfa"
	"collimator/subset"
)

// checkRows expects the rows and the rules of an automaton.
func checkRows(t *testing.T, what string, n api.Nfa, rows [][]int, rules []int) {
	t.Helper()
	d := made(t, what, n)
	if !reflect.DeepEqual(d.Next, rows) {
		t.Errorf("%s: the rows are %v; want %v", what, d.Next, rows)
	}
	if !slices.Equal(d.Rules, rules) {
		t.Errorf("%s: the rules are %v; want %v", what, d.Rules, rules)
	}
	checkLists(t, n, d)
}

// P19.2: the chapter's example.
func TestMakeExample(t *testing.T) {
	n := ofTexts(t, "a|b", "b")
	d := made(t, "the example", n)
	for s, want := range map[string]int{"": -1, "a": 0, "b": 0, "c": -1, "ab": -1, "ba": -1, "bb": -1, "\x00": -1, "\xff": -1} {
		if got := dfa.After(d, s); got != want {
			t.Errorf("the rule after %q is %d; want %d", s, got, want)
		}
	}
	checkClasses(t, "the example", n, "cab")
	d = made(t, "the example turned", ofTexts(t, "b", "a|b"))
	if a, b := dfa.After(d, "a"), dfa.After(d, "b"); a != 1 || b != 0 {
		t.Errorf("the rules after a and b are %d and %d; want 1 and 0", a, b)
	}
}

// P19.2: automata of few states, with the lists in the order in which they are numbered.
func TestMakeRows(t *testing.T) {
	n := bare(1)
	checkRows(t, "a state alone: 0, none", n, [][]int{{1}, {1}}, []int{-1, -1})
	n.Rules[0] = 7
	checkRows(t, "a state alone with a rule: 0, none", n, [][]int{{1}, {1}}, []int{7, -1})
	n.Edges[0] = []api.Edge{byAny(0)}
	checkRows(t, "a state that all bytes lead to: 0", n, [][]int{{0}}, []int{7})
	n.Edges[0] = []api.Edge{by("a", 0)}
	checkRows(t, "a state that a leads to: 0, none", n, [][]int{{1, 0}, {1, 1}}, []int{7, -1})
	n.Edges[0] = []api.Edge{by("\x00", 0)}
	checkRows(t, "a state that the first byte leads to: 0, none", n, [][]int{{0, 1}, {1, 1}}, []int{7, -1})

	n = bare(3)
	n.Rules = []int{-1, 2, 1}
	n.Edges[0] = []api.Edge{by("ab", 1), by("bc", 2)}
	// The classes are the other bytes, a, b and c.
	checkRows(t, "overlapping sets: 0, none, 1, 1 2, 2", n, [][]int{{1, 2, 3, 4}, {1, 1, 1, 1}, {1, 1, 1, 1}, {1, 1, 1, 1}, {1, 1, 1, 1}}, []int{-1, -1, 2, 1, 1})
	n.Edges[1] = []api.Edge{by("c", 0), byAny(1)}
	n.Edges[2] = []api.Edge{byAny(2)}
	checkRows(t, "lists that come again: 0, none, 1, 1 2, 2, 0 1, 0 1 2", n,
		[][]int{{1, 2, 3, 4}, {1, 1, 1, 1}, {2, 2, 2, 5}, {3, 3, 3, 6}, {4, 4, 4, 4}, {2, 2, 3, 6}, {3, 3, 3, 6}}, []int{-1, -1, 2, 1, 1, 2, 1})
}

// P19.2: state 0 is the Closure of First, with Free edges of First and without, in a ring and in a row.
func TestMakeFirst(t *testing.T) {
	n := bare(4)
	n.Rules = []int{3, 2, 1, 0}
	for i := range n.Edges {
		n.Edges[i] = []api.Edge{byAny(i)}
	}
	for first := range 4 {
		n.First = first
		checkRows(t, "no Free edges", n, [][]int{{0}}, []int{3 - first})
	}
	n.Edges[1] = []api.Edge{free(0), by("a", 1)}
	n.Edges[0] = []api.Edge{free(3), by("b", 0)}
	n.First = 1
	checkRows(t, "Free edges from 1 to 0 and 3: 0 1 3, 3, 0 3", n, [][]int{{1, 0, 2}, {1, 1, 1}, {1, 1, 2}}, []int{0, 0, 0})
	n.First = 0
	checkRows(t, "a Free edge from 0 to 3: 0 3, 3", n, [][]int{{1, 1, 0}, {1, 1, 1}}, []int{0, 0})
	n.First = 2
	checkRows(t, "Free edges elsewhere: 2", n, [][]int{{0, 0, 0}}, []int{1})
	n.Edges[3] = []api.Edge{free(0), free(3)}
	n.First = 3
	checkRows(t, "Free edges to one another: 0 3, none", n, [][]int{{1, 1, 0}, {1, 1, 1}}, []int{0, -1})
}

// P19.2: a list is what Free edges lead to as well, behind each byte.
func TestMakeFree(t *testing.T) {
	n := bare(5)
	n.Rules = []int{-1, 9, 8, 7, -1}
	n.Edges[0] = []api.Edge{by("a", 1), by("b", 2), by("c", 4)}
	n.Edges[1] = []api.Edge{free(2)}
	n.Edges[2] = []api.Edge{free(1)}
	n.Edges[4] = []api.Edge{free(3), free(4), by("a", 0)}
	checkRows(t, "0, none, 1 2, 3 4", n, [][]int{{1, 2, 2, 3}, {1, 1, 1, 1}, {1, 1, 1, 1}, {1, 0, 1, 1}}, []int{-1, -1, 8, 7})
}

// P19.2: the empty list is a state like others, where it is found, and is none where it is not.
func TestMakeEmptyList(t *testing.T) {
	n := bare(2)
	n.Rules = []int{4, 5}
	n.Edges[0] = []api.Edge{by(bytesFrom(0, 'b'), 0), by("c", 1)}
	n.Edges[1] = []api.Edge{byAny(1)}
	checkRows(t, "found third: 0, 1, none", n, [][]int{{0, 1, 2}, {1, 1, 1}, {2, 2, 2}}, []int{4, 5, -1})
	n.Edges[0] = append(n.Edges[0], by(bytesFrom('d', 255), 1))
	checkRows(t, "not found: 0, 1", n, [][]int{{0, 1, 1}, {1, 1, 1}}, []int{4, 5})
	n.Edges[1] = []api.Edge{by(bytesFrom(0, 'b'), 0)}
	checkRows(t, "found by the second state: 0, 1, none", n, [][]int{{0, 1, 1}, {0, 2, 2}, {2, 2, 2}}, []int{4, 5, -1})
	n.Edges[0] = nil
	checkRows(t, "found at once: 0, none", n, [][]int{{1, 1}, {1, 1}}, []int{4, -1})
}

// P19.2: states are numbered state by state, and for each of them class by class, whatever the order of the edges and of the numbers of the states is.
func TestMakeOrder(t *testing.T) {
	n := bare(8)
	n.First = 7
	n.Edges[7] = []api.Edge{by("b", 1), by("a", 5)}
	n.Edges[5] = []api.Edge{by("b", 0), by("a", 4)}
	n.Edges[1] = []api.Edge{by("b", 6), by("a", 2)}
	n.Edges[4] = []api.Edge{by("b", 3), by("a", 7)}
	n.Rules = []int{10, 11, 12, 13, 14, 15, 16, 17}
	rows := [][]int{{1, 2, 3}, {1, 1, 1}, {1, 4, 5}, {1, 6, 7}, {1, 0, 8}, {1, 1, 1}, {1, 1, 1}, {1, 1, 1}, {1, 1, 1}}
	checkRows(t, "7, none, 5, 1, 4, 0, 2, 6, 3", n, rows, []int{17, -1, 15, 11, 14, 10, 12, 16, 13})
	for i := range n.Edges {
		slices.Reverse(n.Edges[i])
		n.Edges[i] = append(n.Edges[i], n.Edges[i]...)
	}
	checkRows(t, "each edge twice", n, rows, []int{17, -1, 15, 11, 14, 10, 12, 16, 13})
}

// P19.2: the successors of 256 classes, with the bytes in the order of the states and in the opposite one.
func TestMakeAllClasses(t *testing.T) {
	up, down := bare(257), bare(257)
	for c := range 256 {
		one := string([]byte{byte(c)})
		up.Edges[0] = append(up.Edges[0], by(one, c+1))
		down.Edges[0] = append(down.Edges[0], by(one, 256-c))
		up.Rules[c+1], down.Rules[256-c] = c%32, c%32
	}
	for _, n := range []api.Nfa{up, down} {
		d := made(t, "256 classes", n)
		if len(d.Next) != 258 {
			t.Errorf("%d states; want 258", len(d.Next))
		}
		for c := range 256 {
			if d.Class[c] != c || d.Next[0][c] != c+1 || d.Rules[c+1] != c%32 || d.Next[c+1][c] != 257 {
				t.Errorf("by %d to %d of the rule %d", c, d.Next[0][c], d.Rules[c+1])
			}
		}
	}
}

// P19.2: the rule of a list is its smallest one; -1 is none.
func TestMakeRules(t *testing.T) {
	for _, c := range []struct {
		rules []int
		want  int
	}{
		{[]int{-1}, -1},
		{[]int{-1, -1, -1}, -1},
		{[]int{0}, 0},
		{[]int{31}, 31},
		{[]int{31, -1}, 31},
		{[]int{-1, 31}, 31},
		{[]int{-1, 0, -1}, 0},
		{[]int{0, 31}, 0},
		{[]int{31, 0}, 0},
		{[]int{5, 3, 9}, 3},
		{[]int{3, 5, 9}, 3},
		{[]int{9, 5, 3}, 3},
		{[]int{5, 5, -1, 5}, 5},
		{[]int{1, -1, 0, 2, -1}, 0},
		{[]int{-1, 2, 1}, 1},
		{[]int{30, 31, 30}, 30},
	} {
		states := len(c.rules)
		n := bare(states + 1)
		for i := range states {
			n.Edges[states] = append(n.Edges[states], by("a", i))
		}
		copy(n.Rules, c.rules)
		n.First = states
		checkRows(t, fmt.Sprint("the rules ", c.rules), n, [][]int{{1, 2}, {1, 1}, {1, 1}}, []int{-1, -1, c.want})
	}
}

// P19.2: lists of states with large numbers, also such that only the large parts of their numbers tell apart.
func TestMakeLargeNumbers(t *testing.T) {
	n := bare(3000)
	lists := [][]int{{1}, {257}, {2561}, {1, 257}, {1, 2561}, {257, 2561}, {1, 257, 2561}, {2999}, {0, 1}, {1, 256}, {0, 256}, {256}, {512}, {255, 511}, {767}, {1, 2}, {258}, {513}}
	n.First = 2000
	for i, list := range lists {
		for _, to := range list {
			n.Edges[2000] = append(n.Edges[2000], by(string([]byte{byte(i + 1)}), to))
		}
	}
	d := made(t, "large numbers", n)
	if len(d.Next) != len(lists)+2 {
		t.Errorf("%d states; want %d", len(d.Next), len(lists)+2)
	}
	checkLists(t, n, d)
}

// P19.2: lists with all states of the largest automata.
func TestMakeLargeLists(t *testing.T) {
	n := bare(3000)
	for i := range 2999 {
		n.Edges[i] = []api.Edge{free(i + 1), by("a", i)}
	}
	n.Edges[2999] = []api.Edge{by("b", 2990)}
	n.Rules[2999], n.Rules[2995] = 31, 6
	d := made(t, "a row of Free edges", n)
	checkLists(t, n, d)
	if len(d.Next) != 3 || d.Rules[0] != 6 {
		t.Errorf("%d states; the first rule is %d", len(d.Next), d.Rules[0])
	}
}

// P19.2: states that no text can tell apart stay apart if their lists are not the same.
func TestMakeNotMinimal(t *testing.T) {
	n := bare(3)
	n.Rules = []int{3, 3, 3}
	n.Edges[0] = []api.Edge{byAny(1)}
	n.Edges[1] = []api.Edge{byAny(2)}
	n.Edges[2] = []api.Edge{byAny(0), byAny(2)}
	checkRows(t, "0, 1, 2, 0 2, 0 1 2", n, [][]int{{1}, {2}, {3}, {4}, {4}}, []int{3, 3, 3, 3, 3})
}

// someAutomata are automata of all kinds.
func someAutomata(t *testing.T) []api.Nfa {
	t.Helper()
	return []api.Nfa{three(), ring(20), bushy(40), last(4), ofTexts(t, "let", "[a-z]+", "(a|bc)*d{2,3}", "[^\\n]")}
}

// spacious is a copy of an automaton with more behind each of its lists in memory.
func spacious(n api.Nfa) api.Nfa {
	states := len(n.Edges)
	n.Edges = append(slices.Clone(n.Edges), []api.Edge{by("x", -4)})
	n.Rules = append(slices.Clone(n.Rules), -9)
	for i, l := range n.Edges {
		n.Edges[i] = append(slices.Clone(l), by("zyx", -5))[:len(l)]
	}
	n.Edges, n.Rules = n.Edges[:states], n.Rules[:states]
	return n
}

// memory is a copy of an automaton and of what is behind its lists.
func memory(n api.Nfa) api.Nfa {
	n.Edges = slices.Clone(n.Edges[:cap(n.Edges)])
	n.Rules = slices.Clone(n.Rules[:cap(n.Rules)])
	for i, l := range n.Edges {
		n.Edges[i] = slices.Clone(l[:cap(l)])
	}
	return n
}

// R4: neither the automaton nor what is behind its lists in memory is changed.
func TestMakeArguments(t *testing.T) {
	for _, n := range append(someAutomata(t), ring(1001), bare(0)) {
		n = spacious(n)
		kept := memory(n)
		subset.Make(n)
		subset.Classes(n)
		if again := memory(n); !reflect.DeepEqual(again, kept) {
			t.Errorf("%v has become %v", kept, again)
		}
	}
}

// R4: an automaton keeps what it is when what it was made of is changed.
func TestMakeKeepsNothing(t *testing.T) {
	for i, n := range someAutomata(t) {
		d := made(t, "an automaton", n)
		for k := range n.Edges {
			clear(n.Edges[k])
			n.Rules[k] = 30
		}
		clear(n.Edges)
		if want := made(t, "an automaton", someAutomata(t)[i]); !reflect.DeepEqual(d, want) {
			t.Errorf("%v has become %v", want, d)
		}
	}
}

// R4: an automaton is the caller's own: its lists share no memory, and what is written to them is not seen in another automaton.
func TestMakeOwn(t *testing.T) {
	for i, n := range someAutomata(t) {
		d, want := made(t, "an automaton", n), made(t, "an automaton", n)
		for k := range d.Next {
			row := d.Next[k][:cap(d.Next[k])]
			for j := range row {
				row[j] = -7
			}
			if !reflect.DeepEqual(d.Next[k+1:], want.Next[k+1:]) || !slices.Equal(d.Rules, want.Rules) {
				t.Fatalf("with the row %d, others have changed: %v", k, d)
			}
		}
		d.Class[0] = 77
		clear(d.Rules[:cap(d.Rules)])
		clear(d.Next[:cap(d.Next)])
		if !reflect.DeepEqual(n, someAutomata(t)[i]) {
			t.Errorf("%v has changed", n)
		}
		if again := made(t, "an automaton", n); !reflect.DeepEqual(again, want) {
			t.Errorf("%v is made again as %v", want, again)
		}
	}
}

// R5: equal automata have equal results, whatever was made before and at the same time.
func TestMakeEqual(t *testing.T) {
	l := someAutomata(t)
	var want []api.Dfa
	for _, n := range l {
		want = append(want, made(t, "an automaton", n))
	}
	checkFault(t, "one that is too large", ring(1001), api.ErrBig)
	done := make(chan []api.Dfa)
	for range 8 {
		go func() {
			var all []api.Dfa
			for _, n := range l {
				d, _ := subset.Make(n)
				all = append(all, d)
			}
			done <- all
		}()
	}
	for range 8 {
		if got := <-done; !reflect.DeepEqual(got, want) {
			t.Errorf("made at the same time: %v; want %v", got, want)
		}
	}
}

// A step that is made from a list is that of package nfa, for each byte.
func TestMakeEachByte(t *testing.T) {
	for _, n := range someAutomata(t) {
		d := made(t, "an automaton", n)
		lists := [][]int{nfa.Closure(n, []int{n.First})}
		for state := 0; state < len(lists); state++ {
			for c := range 256 {
				next := nfa.Step(n, lists[state], byte(c))
				to := d.Next[state][d.Class[c]]
				if to == len(lists) {
					lists = append(lists, next)
				}
				if to > len(lists) || !slices.Equal(lists[to], next) {
					t.Errorf("%v: from %d by %d to %d; want %v", n, state, c, to, next)
				}
			}
		}
	}
}
