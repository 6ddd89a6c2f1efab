package subset_test

import (
	"fmt"
	"math/rand"
	"testing"

	"collimator/api"
	"collimator/dfa"
	"collimator/nfa"
	"collimator/regex"
	"collimator/subset"
)

// short are all texts of up to some bytes.
func short(letters string, most int) []string {
	texts := []string{""}
	for i := 0; len(texts[i]) < most; i++ {
		for k := range len(letters) {
			texts = append(texts, texts[i]+letters[k:k+1])
		}
	}
	return texts
}

// small is the automaton of two states that the digits of a number describe: First, the rules, and for each two states whether there is an edge between them, and by what.
func small(number int) api.Nfa {
	digit := func(base int) int {
		d := number % base
		number /= base
		return d
	}
	n := bare(2)
	n.First = digit(2)
	for i := range 2 {
		n.Rules[i] = digit(3) - 1
		for to := range 2 {
			if d := digit(6); d > 0 {
				n.Edges[i] = append(n.Edges[i], []api.Edge{free(to), by("a", to), by("b", to), by("ab", to), byAny(to)}[d-1])
			}
		}
	}
	return n
}

// P19.3: all automata of two states with at most one edge from each to each, for many short texts.
func TestAllSmall(t *testing.T) {
	texts := short("abc", 4)
	for number := range 2 * 3 * 3 * 6 * 6 * 6 * 6 {
		n := small(number)
		d := made(t, "a small automaton", n)
		checkLists(t, n, d)
		for i := number % 7; i < len(texts); i += 7 {
			checkRules(t, n, d, texts[i])
		}
	}
}

// P19.2, P19.3: many automata of any edges.
func TestManyAutomata(t *testing.T) {
	rng := rand.New(rand.NewSource(193))
	texts := append(short("abcd", 3), "\x00", "\xff", "a\x00\xff", "\xffa\xff", "abababab", "aaaaaaaaaaaa")
	several := 0
	for range 5000 {
		n := someAutomaton(rng, 1+rng.Intn(1<<rng.Intn(6)))
		if _, e := modelMake(n); e == api.ErrBig {
			checkFault(t, "too large", n, api.ErrBig)
			continue
		}
		d := made(t, "an automaton", n)
		checkLists(t, n, d)
		for range 20 {
			s := texts[rng.Intn(len(texts))]
			checkRules(t, n, d, s)
			if len(nfa.Run(n, s)) > 1 {
				several++
			}
		}
	}
	if several < 1000 {
		t.Errorf("only %d texts have several rules", several)
	}
}

// expressions are such as rule files have.
func expressions() []string {
	return []string{
		"let", "if|else|while", "[a-z]+", "[a-z_][a-z0-9_]*", "\\d+", "\\d+\\.\\d*", "[\\s\\n]+", "\"[^\"\\n]*\"", "#[^\\n]*", "a{2,3}", "(ab|ba)*", "(a|b)*abb",
		"x?y?z?", "(a?){3}", "[^a]", "\\x00|\\xff", "(a|ab)(c|bcd)", "a|a|a", "((a*)*)*", "[ab]{0,4}c", "=|==|===",
	}
}

// someRules are some of the expressions, in any order and also twice.
func someRules(rng *rand.Rand) []string {
	var texts []string
	for range 1 + rng.Intn(6) {
		texts = append(texts, expressions()[rng.Intn(len(expressions()))])
	}
	return texts
}

// someText is a text of pieces that the expressions match, and of others.
func someText(rng *rand.Rand) string {
	pieces := []string{"let", "if", "els", "e", "while", "a", "b", "ab", "abb", "c", "7", "42.", "\"", "#x", "\n", " ", "\x00", "\xff", "=", "==", "xz", "_a1", "aaa"}
	s := ""
	for range rng.Intn(4) {
		s += pieces[rng.Intn(len(pieces))]
	}
	return s
}

// P19.2, P19.3: automata of many expressions, for texts that they match and for others.
func TestManyExpressions(t *testing.T) {
	rng := rand.New(rand.NewSource(194))
	several := 0
	for range 1500 {
		texts := someRules(rng)
		n := ofTexts(t, texts...)
		d := made(t, fmt.Sprintf("%q", texts), n)
		checkLists(t, n, d)
		for range 40 {
			s := someText(rng)
			checkRules(t, n, d, s)
			if len(nfa.Run(n, s)) > 1 {
				several++
			}
		}
	}
	if several < 1000 {
		t.Errorf("only %d texts have several rules", several)
	}
}

// P19.3: automata of many states, for texts that lead to many of them.
func TestLargeAutomata(t *testing.T) {
	for i, n := range []api.Nfa{last(8), bushy(999), ring(1000), chain(999), ofTexts(t, "(a|b)*a(a|b){7}", "b+"), ofTexts(t, "ab|ba", "([a-z]{0,9}){0,9}")} {
		d := made(t, fmt.Sprint("automaton ", i), n)
		checkLists(t, n, d)
		for _, s := range ways(d) {
			checkRules(t, n, d, s)
		}
	}
}

// ways are, of every seventh state, a shortest text that leads to it.
func ways(d api.Dfa) []string {
	texts := map[int]string{0: ""}
	found := []int{0}
	for i := 0; i < len(found); i++ {
		for c := range 256 {
			to := d.Next[found[i]][d.Class[c]]
			if _, ok := texts[to]; !ok {
				texts[to] = texts[found[i]] + string([]byte{byte(c)})
				found = append(found, to)
			}
		}
	}
	var some []string
	for i := 0; i < len(found); i += 7 {
		some = append(some, texts[found[i]])
	}
	return some
}

// R1, P19.1 to P19.3: automata of any numbers.
func FuzzAny(f *testing.F) {
	f.Add([]byte{2, 0, 255, 3, 1, 0, 0, 1, 1, 1}, "ab")
	f.Add([]byte{3, 1, 0, 2, 1, 2, 1, 3, 0, 1, 2, 0, 1, 4, 2, 1, 0, 6}, "bba")
	f.Add([]byte{}, "")
	f.Fuzz(func(t *testing.T, b []byte, s string) {
		if len(b) > 60 || len(s) > 100 {
			return
		}
		n := fromBytes(b)
		if !nfa.Right(n) {
			checkWrong(t, "an automaton", n)
			return
		}
		if _, e := modelMake(n); e != api.OK {
			checkFault(t, "an automaton", n, e)
			return
		}
		d := made(t, "an automaton", n)
		checkLists(t, n, d)
		checkRules(t, n, d, s)
	})
}

// fromBytes is an automaton that bytes describe; it is often valid or nearly so.
func fromBytes(b []byte) api.Nfa {
	if len(b) < 2 {
		return api.Nfa{}
	}
	n := bare(int(b[0] & 31))
	n.First = int(int8(b[1]))
	for b = b[2:]; len(b) >= 4 && len(n.Edges) > 0; b = b[4:] {
		i := int(b[0]) % len(n.Edges)
		n.Rules[i] = int(b[1]&63) - 2
		e := api.Edge{To: int(int8(b[2])), Free: b[3]&1 == 1, Set: api.Set{0, uint64(b[3]>>1) << 33}}
		if b[3]&3 == 3 {
			e.Set = api.Set{}
		}
		n.Edges[i] = append(n.Edges[i], e)
	}
	return n
}

// P19.3: any expressions and texts.
func FuzzExpressions(f *testing.F) {
	f.Add("a|b", "b", "ab")
	f.Add("(a*b){2,}", "[^a]{0,3}", "abb")
	f.Add("(a|b)*a(a|b){10}", "\\xff", "aaaaaaaaaaaa")
	f.Fuzz(func(t *testing.T, first, second, s string) {
		x, e, _ := regex.Parse(first)
		y, e2, _ := regex.Parse(second)
		if e != api.OK || e2 != api.OK || len(s) > 100 {
			return
		}
		n, e := nfa.Make([][]api.Node{x, y})
		if e != api.OK || len(n.Edges) > 300 {
			return
		}
		d, e := subset.Make(n)
		if e == api.ErrBig {
			return
		}
		if e != api.OK || !dfa.Right(d) {
			t.Fatalf("%q and %q: %d", first, second, e)
		}
		checkLists(t, n, d)
		checkRules(t, n, d, s)
	})
}
