package nfa_test

import (
	"fmt"
	"math/rand"
	"regexp"
	"slices"
	"strings"
	"testing"

	"collimator/api"
	"collimator/nfa"
	"collimator/regex"
)

// short are all texts of up to some bytes.
func short(letters string, most int) []string {
	texts := []string{""}
	for from := 0; most > 0; most-- {
		end := len(texts)
		for _, s := range texts[from:end] {
			for i := range len(letters) {
				texts = append(texts, s+letters[i:i+1])
			}
		}
		from = end
	}
	return texts
}

// above are trees with some tree as the only child of their root.
func above(kid []api.Node) [][]api.Node {
	return [][]api.Node{
		star(kid), plus(kid), opt(kid), repeat(0, 0, kid), repeat(1, 1, kid), repeat(2, 2, kid), repeat(0, 2, kid), repeat(1, 2, kid), repeat(2, 3, kid),
		repeat(0, -1, kid), repeat(1, -1, kid), repeat(2, -1, kid),
	}
}

// P17.3: all trees of two levels, and many of three, for all short texts.
func TestAllSmallTrees(t *testing.T) {
	leaf := [][]api.Node{set("a"), set("ab"), none()}
	second := slices.Clone(leaf)
	for _, x := range leaf {
		second = append(second, above(x)...)
		for _, y := range leaf {
			second = append(second, cat(x, y), alt(x, y))
		}
	}
	third := slices.Clone(second)
	for i, x := range second {
		third = append(third, above(x)...)
		for k := i % 3; k < len(second); k += 3 {
			third = append(third, cat(x, second[k]), alt(x, second[k]))
		}
	}
	texts := short("ab", 5)
	for _, x := range third {
		n := made(t, x)
		for _, s := range texts {
			checkRun(t, n, [][]api.Node{x}, s)
		}
	}
	if len(third) < 2500 {
		t.Errorf("only %d trees", len(third))
	}
}

// P17.1, P17.3: many trees, for texts that they match, for such with a byte changed, and for others.
func TestManyTrees(t *testing.T) {
	rng := rand.New(rand.NewSource(175))
	texts := short("abc", 2)
	for range 3000 {
		x := someTree(rng, 1+rng.Intn(1<<rng.Intn(6)))
		if modelSize(x) > 1000 {
			continue
		}
		l := [][]api.Node{x}
		n := made(t, x)
		for _, s := range append(someTexts(rng, x), texts...) {
			checkRun(t, n, l, s)
		}
	}
}

// someTexts are texts that a tree matches, and texts that are near to them.
func someTexts(rng *rand.Rand, l []api.Node) []string {
	var texts []string
	for range 4 {
		s := someMatch(rng, l)
		if len(s) > 200 {
			continue
		}
		at := rng.Intn(len(s) + 1)
		letter := string(rune("abcd"[rng.Intn(4)]))
		texts = append(texts, s, s[:at], s+letter, s[:at]+letter+s[at:])
		if at < len(s) {
			texts = append(texts, s[:at]+letter+s[at+1:], s[:at]+s[at+1:])
		}
	}
	return texts
}

// P17.1: many trees in one automaton. The rules after a text are the numbers of the trees that match it.
func TestManyRules(t *testing.T) {
	rng := rand.New(rand.NewSource(176))
	several := 0
	for range 600 {
		var l [][]api.Node
		size := 1
		for range 2 + rng.Intn(31) {
			if x := someTree(rng, 1+rng.Intn(10)); size+modelSize(x) <= 3000 {
				l = append(l, x)
				size += modelSize(x)
			}
		}
		n := made(t, l...)
		for _, s := range append(someTexts(rng, l[rng.Intn(len(l))]), "", "a", "bc", "abab") {
			checkRun(t, n, l, s)
			if len(nfa.Run(n, s)) > 2 {
				several++
			}
		}
	}
	if several < 1000 {
		t.Errorf("only %d texts have several rules", several)
	}
}

// library is a tree as an expression of Go's package regexp, for the bytes a, b, c and d. It is nil if that package does not accept it.
func library(l []api.Node) *regexp.Regexp {
	r, err := regexp.Compile("^(?:" + translated(l) + ")$")
	if err != nil { // its limit of repetitions within repetitions
		return nil
	}
	return r
}

func translated(l []api.Node) string {
	var kids []string
	for _, kid := range children(l) {
		kids = append(kids, "(?:"+translated(kid)+")")
	}
	switch x := l[0]; x.Kind {
	case api.RSet:
		var s strings.Builder
		for _, c := range []byte("abcd") {
			if has(x.Set, c) {
				s.WriteByte(c)
			}
		}
		return "[" + s.String() + "]"
	case api.REmpty:
		return ""
	case api.RAlt:
		return strings.Join(kids, "|")
	case api.RCat:
		return strings.Join(kids, "")
	case api.RRepeat:
		if x.High < 0 {
			return fmt.Sprintf("%s{%d,}", kids[0], x.Low)
		}
		return fmt.Sprintf("%s{%d,%d}", kids[0], x.Low, x.High)
	default:
		return kids[0] + "*+?"[x.Kind-api.RStar:][:1]
	}
}

// P17.3: many trees, against Go's package regexp.
func TestLibrary(t *testing.T) {
	rng := rand.New(rand.NewSource(177))
	held := 0
	for range 2000 {
		x := someTree(rng, 1+rng.Intn(16))
		r := library(x)
		if r == nil || modelSize(x) > 500 {
			continue
		}
		held++
		n := made(t, x)
		for _, s := range someTexts(rng, x) {
			if got := len(nfa.Run(n, s)) > 0; got != r.MatchString(s) {
				t.Errorf("%s: a match of %q is %t", regex.Show(x), s, got)
			}
		}
	}
	if held < 1000 {
		t.Errorf("only %d trees could be held against the library", held)
	}
}

// P17.2: the steps of a run, one by one, for automata of Make.
func TestStepsOfRun(t *testing.T) {
	rng := rand.New(rand.NewSource(178))
	for range 500 {
		x, y := someTree(rng, 1+rng.Intn(8)), someTree(rng, 1+rng.Intn(8))
		if modelSize(x)+modelSize(y) > 200 {
			continue
		}
		n := made(t, x, y)
		checkParts(t, n, []int{n.First}, someMatch(rng, x)[:0])
		states := nfa.Closure(n, []int{n.First})
		for _, c := range []byte("abcab") {
			checkParts(t, n, states, "abcd")
			states = nfa.Step(n, states, c)
		}
		checkParts(t, n, someStates(rng, len(n.Edges)), "abc\xff")
	}
}

// P17.2: many automata that Make did not make, against the models.
func TestManyAutomata(t *testing.T) {
	rng := rand.New(rand.NewSource(179))
	for range 10000 {
		n := someAutomaton(rng, 1+rng.Intn(1<<rng.Intn(6)))
		checkParts(t, n, someStates(rng, len(n.Edges)), []string{"", "a", "ab", "ba\xff", "\x00b", "abab", "c"}[rng.Intn(7)])
	}
}

// P17.1, P17.3: expressions and texts of any bytes.
func FuzzRun(f *testing.F) {
	for _, c := range [][3]string{{"a|b", "b", "b"}, {"(a*b){2,}", "", "abb"}, {"[^a]{0,3}", "(x?){3}", "xx"}, {"a{30}{30}{30}{30}", "a", "a"}} {
		f.Add(c[0], c[1], c[2])
	}
	f.Fuzz(func(t *testing.T, first, second, s string) {
		x, e, _ := regex.Parse(first)
		y, e2, _ := regex.Parse(second)
		if e != api.OK || e2 != api.OK || len(s) > 100 {
			return
		}
		l := [][]api.Node{x, y}
		if size := modelSize(x) + modelSize(y) + 1; size > 3000 {
			checkFault(t, "too large", l, api.ErrBig)
			return
		}
		checkRun(t, made(t, l...), l, s)
	})
}

// P17.2: automata and states of any numbers.
func FuzzParts(f *testing.F) {
	f.Add([]byte{2, 0, 255, 3, 1, 0, 0, 1, 1, 1}, []byte{0, 1, 255}, "ab")
	f.Fuzz(func(t *testing.T, b, numbers []byte, s string) {
		if len(b) < 2 || len(s) > 20 || len(numbers) > 20 {
			return
		}
		n := row(int(b[0] & 15))
		n.First = int(int8(b[1]))
		for b = b[2:]; len(b) >= 4 && len(n.Edges) > 0; b = b[4:] {
			i := int(b[0]) % len(n.Edges)
			n.Rules[i] = int(b[1]&63) - 2
			e := api.Edge{To: int(int8(b[2])), Free: b[3]&1 == 1, Set: api.Set{0, uint64(b[3]>>1) << 33}}
			n.Edges[i] = append(n.Edges[i], e)
		}
		var states []int
		for _, c := range numbers {
			states = append(states, int(int8(c)))
		}
		if modelRight(n) {
			checkRight(t, "an automaton", n)
			checkParts(t, n, states, s)
		} else {
			checkWrong(t, "an automaton", n)
		}
	})
}
