package dfa_test

import (
	"math"
	"math/rand"
	"slices"
	"strings"
	"testing"

	"collimator/api"
	"collimator/dfa"
)

// P18.2: each byte's class, in each state.
func TestStep(t *testing.T) {
	d := three()
	for state, row := range d.Next {
		for c := range 256 {
			class := strings.IndexByte("abc", byte(c))
			want := row[[4]int{0, 1, 1, 2}[class+1]]
			if got := dfa.Step(d, state, byte(c)); got != want {
				t.Errorf("Step from %d by %q is %d; want %d", state, byte(c), got, want)
			}
		}
	}
	d = wide(2, 256)
	for c := range 256 {
		d.Next[1][c] = c % 2
	}
	for c := range 256 {
		if got := dfa.Step(d, 1, byte(c)); got != c%2 {
			t.Errorf("Step by the byte %d of 256 classes is %d", c, got)
		}
		if got := dfa.Step(d, 0, byte(c)); got != 0 {
			t.Errorf("Step by the byte %d from the state 0 is %d", c, got)
		}
	}
}

// P18.2: -1 if there is no such state.
func TestStepNone(t *testing.T) {
	for _, d := range []api.Dfa{three(), wide(1, 1), wide(1000, 1), wide(1, 256)} {
		states := len(d.Next)
		for _, state := range []int{-1, -2, states, states + 1, 1 << 32, math.MinInt, math.MaxInt} {
			for _, c := range []byte("a\x00\xff") {
				if got := dfa.Step(d, state, c); got != -1 {
					t.Errorf("Step from %d of %d states is %d", state, states, got)
				}
			}
		}
		if got := dfa.Step(d, states-1, 'x'); got != d.Next[states-1][d.Class['x']] {
			t.Errorf("Step from the last of %d states is %d", states, got)
		}
	}
}

// P18.2: the states after texts, and their rules.
func TestRun(t *testing.T) {
	for _, c := range []struct {
		s           string
		state, rule int
	}{
		{"", 0, -1}, {"x", 0, -1}, {"\x00", 0, -1}, {"\xff", 0, -1}, {"a", 1, 4}, {"b", 1, 4}, {"c", 2, 0},
		{"ab", 1, 4}, {"abba", 1, 4}, {"ac", 0, -1}, {"ax", 2, 0}, {"a\x00", 2, 0}, {"b\xff", 2, 0},
		{"ca", 2, 0}, {"acb", 1, 4}, {"xxacxxb", 1, 4}, {"axaaa", 2, 0}, {"a\x80a", 2, 0}, {"é", 0, -1},
	} {
		d := three()
		if state, rule := dfa.Run(d, c.s), dfa.After(d, c.s); state != c.state || rule != c.rule {
			t.Errorf("%q: state %d, rule %d; want %d, %d", c.s, state, rule, c.state, c.rule)
		}
		checkText(t, d, c.s)
	}
}

// P18.2: the chapter's example. With one state, one class and the rule 3, After is 3 for every text.
func TestExample(t *testing.T) {
	d := api.Dfa{Next: [][]int{{0}}, Rules: []int{3}}
	for _, s := range append(allBytes(), "", "abc", "\x00\xff", strings.Repeat("long ", 10000)) {
		if run, after := dfa.Run(d, s), dfa.After(d, s); run != 0 || after != 3 {
			t.Errorf("%.20q: state %d, rule %d", s, run, after)
		}
	}
	if live := dfa.Live(d); len(live) != 1 || !live[0] {
		t.Errorf("Live is %v", live)
	}
}

// allBytes are the texts of one byte.
func allBytes() []string {
	var texts []string
	for c := range 256 {
		texts = append(texts, string([]byte{byte(c)}))
	}
	return texts
}

// P18.2: the empty text leads to the state 0, whatever its rule; bytes lead by their own classes.
func TestRunBytes(t *testing.T) {
	for rule := -1; rule < 32; rule++ {
		d := three()
		d.Rules[0] = rule
		if got := dfa.After(d, ""); got != rule {
			t.Errorf("the rule %d of the state 0 is %d after the empty text", rule, got)
		}
	}
	d := wide(256, 256)
	for c := range 256 {
		d.Next[0][c] = c
		d.Rules[c] = c%33 - 1
	}
	for c, s := range allBytes() {
		if run, after := dfa.Run(d, s), dfa.After(d, s); run != c || after != c%33-1 {
			t.Errorf("%q: state %d, rule %d", s, run, after)
		}
	}
}

// P18.2: long texts, and a chain as long as an automaton can be.
func TestRunLong(t *testing.T) {
	d := wide(1000, 2)
	d.Class[0], d.Class[255] = 0, 0
	for state := range 999 {
		d.Next[state][1] = state + 1
	}
	d.Next[999][1] = 999
	d.Rules[999] = 31
	for _, n := range []int{0, 1, 500, 998, 999, 1000, 100000} {
		s := strings.Repeat("x", n)
		want, rule := min(n, 999), -1
		if want == 999 {
			rule = 31
		}
		if run, after := dfa.Run(d, s), dfa.After(d, s); run != want || after != rule {
			t.Errorf("%d bytes: state %d, rule %d", n, run, after)
		}
		if run := dfa.Run(d, s+"\xff"); run != 0 {
			t.Errorf("%d bytes and the byte 255: state %d", n, run)
		}
		if run := dfa.Run(d, s+"\x00x"); run != 1 {
			t.Errorf("%d bytes, the byte 0 and another: state %d", n, run)
		}
	}
}

// P18.2: for automata that are not valid, whatever is wrong, each result is -1, also where the wrong part is never met.
func TestRunWrong(t *testing.T) {
	d := three()
	d.Next[2][2] = 3
	checkWrong(t, "a row that no text leads to", d)
	d = three()
	d.Rules[2] = 32
	checkWrong(t, "a rule that no text leads to", d)
	d = wide(1000, 1)
	d.Next[999] = nil
	checkWrong(t, "a state that cannot be reached", d)
	d = three()
	d.Class[255] = 3
	checkWrong(t, "a class of another byte", d)
	checkWrong(t, "too many states", wide(1001, 3))
	checkWrong(t, "no states", api.Dfa{})
}

// P18.2: many automata and texts, against the model.
func TestRunRandom(t *testing.T) {
	rng := rand.New(rand.NewSource(183))
	for range 2000 {
		d := someDfa(rng, 1+rng.Intn(1<<rng.Intn(8)), 1+rng.Intn(1<<rng.Intn(9)))
		for range 5 {
			checkText(t, d, someText(rng, rng.Intn(40)))
		}
	}
}

// someText is some bytes, the ends of their range among them.
func someText(rng *rand.Rand, n int) string {
	s := make([]byte, n)
	for i := range s {
		s[i] = byte(rng.Intn(256))
		if rng.Intn(4) == 0 {
			s[i] = "a\x00\xff\x01"[rng.Intn(4)]
		}
	}
	return string(s)
}

// P18.2, R4 and R5: nothing that is handed in is changed, and equal arguments have equal results.
func TestRunKeeps(t *testing.T) {
	rng := rand.New(rand.NewSource(184))
	for range 300 {
		d := someDfa(rng, 1+rng.Intn(9), 1+rng.Intn(9))
		if rng.Intn(3) == 0 {
			d.Rules[0] = 32
		}
		spare := spacious(d)
		s := someText(rng, 20)
		ask := func() []int {
			return []int{dfa.Run(d, s), dfa.After(d, s), dfa.Step(d, rng.Intn(1), s[0]), dfa.Step(d, -1, s[0])}
		}
		before := ask()
		dfa.Right(d)
		dfa.Same(d, three())
		dfa.Live(d)
		if !slices.Equal(ask(), before) {
			t.Error("other results for equal arguments")
		}
		if !spare.kept(d) {
			t.Errorf("%v is changed", d)
		}
	}
}

// A guard remembers an automaton and what its lists had behind their ends.
type guard struct {
	class [256]int
	lists [][]int
	rows  int
}

// spacious gives all lists of an automaton spare capacity with marks in it.
func spacious(d api.Dfa) guard {
	g := guard{class: d.Class, rows: len(d.Next)}
	for i, row := range d.Next {
		d.Next[i] = append(append(make([]int, 0, len(row)+3), row...), 77, 78, 79)[:len(row)]
	}
	for _, l := range append(slices.Clone(d.Next), d.Rules) {
		g.lists = append(g.lists, slices.Clone(l[:cap(l)]))
	}
	return g
}

func (g guard) kept(d api.Dfa) bool {
	if d.Class != g.class || len(d.Next) != g.rows {
		return false
	}
	for i, l := range append(slices.Clone(d.Next), d.Rules) {
		if !slices.Equal(l[:cap(l)], g.lists[i]) {
			return false
		}
	}
	return true
}
