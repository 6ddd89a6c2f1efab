package regex_test

import (
	"math/rand"
	"slices"
	"strings"
	"testing"

	"collimator/api"
	"collimator/regex"
)

// checkRound expects that a valid tree is parsed from what Show returns, unless that is too long (P15.5). It tells whether it was not.
func checkRound(t *testing.T, l []api.Node) bool {
	t.Helper()
	before := slices.Clone(l)
	s := regex.Show(l)
	if !slices.Equal(l, before) {
		t.Fatalf("Show has changed %v to %v", before, l)
	}
	if s == "" {
		t.Errorf("%v is not shown", l)
	}
	if len(s) > api.MaxRegex {
		checkFault(t, s, api.ErrBig, api.MaxRegex)
		return false
	}
	checkTree(t, s, before)
	return true
}

// every calls a function with all texts of up to some letters.
func every(letters []string, most int, f func(s string)) {
	texts := []string{""}
	for range most + 1 {
		var longer []string
		for _, s := range texts {
			f(s)
			for _, x := range letters {
				longer = append(longer, s+x)
			}
		}
		texts = longer
	}
}

// P15.1: all short expressions of some letters, against the model.
func TestParseShort(t *testing.T) {
	every(strings.Split(`a b ( ) | * { } 1 , [ ] - ^ \ .`, " "), 4, func(s string) { checkModel(t, s) })
}

// P15.1: all short classes, in and behind other brackets, against the model.
func TestParseShortClass(t *testing.T) {
	every(strings.Split(`a b - ] ^ [ \- \d \xff \`, " "), 5, func(s string) { checkModel(t, "x["+s) })
	every(strings.Split(`a b - ] ^ \w ( )`, " "), 4, func(s string) { checkModel(t, "(["+s) })
	every(strings.Split(`\x00 \xff - ] ^`, " "), 6, func(s string) { checkModel(t, "["+s+"]") })
}

// P15.1: all short groups, against the model.
func TestParseShortGroup(t *testing.T) {
	every(strings.Split(`a ( ) | * [b] {1}`, " "), 6, func(s string) { checkModel(t, s) })
}

// P15.1: all short repetitions, against the model.
func TestParseShortSign(t *testing.T) {
	every(strings.Split(`0 2 3 , } { a`, " "), 5, func(s string) { checkModel(t, "(a{"+s+")") })
	every(strings.Split(`0 2 3 , }`, " "), 6, func(s string) { checkModel(t, "a{"+s) })
}

// P15.1: all escapes of up to three bytes, outside and inside of a class.
func TestParseShortEscape(t *testing.T) {
	for c := range 256 {
		s := `\` + string([]byte{byte(c)})
		for _, text := range []string{s, "a" + s + "b", "[" + s, "[" + s + "]", "[" + s + "-z]", "[ -" + s + "]", "(" + s, s + "*"} {
			checkModel(t, text)
		}
		for d := range 256 {
			checkModel(t, `\x`+string([]byte{byte(c), byte(d)}))
			checkModel(t, `[\x`+string([]byte{byte(c), byte(d)})+`]`)
		}
	}
}

// P15.1: each byte in each place, against the model.
func TestParseEachByte(t *testing.T) {
	for c := range 256 {
		s := string([]byte{byte(c)})
		for _, text := range []string{s, "a" + s, s + "a", "(" + s + ")", "(" + s, "a|" + s, "a" + s + "|", "[" + s + "]", "[" + s, "[^" + s + "]", "[a-" + s + "]", "[" + s + "-z]", "[a-b" + s + "]", "a{" + s, "a{1" + s, "a{1," + s, "a{12" + s, "a{1,2" + s, "a{1,12" + s, "a{1,2}" + s} {
			checkModel(t, text)
		}
	}
}

// P15.1: expressions of random letters, and shown trees with a byte changed, against the model.
func TestParseRandom(t *testing.T) {
	rng := rand.New(rand.NewSource(151))
	letters := strings.Split(`a b c z ( ( ) ) | * + ? {2} {0,} {1,3} {31} { } [ [^ ] - . \n \d \w \x41 \q \ , 7`, " ")
	for range 40000 {
		var s strings.Builder
		for range rng.Intn(30) {
			s.WriteString(letters[rng.Intn(len(letters))])
		}
		checkModel(t, s.String())
	}
	for range 20000 {
		s := []byte(regex.Show(someTree(rng, 1+rng.Intn(20))))
		s[rng.Intn(len(s))] = `()[]{}*+?|.\-^ab09,`[rng.Intn(19)]
		checkModel(t, string(s))
		checkModel(t, string(s[:rng.Intn(len(s))]))
	}
}

// P15.5, and P15.2 for the trees and for all their cuts.
func TestRoundTrees(t *testing.T) {
	rng := rand.New(rand.NewSource(155))
	parsed := 0
	for range 20000 {
		l := someTree(rng, 1+rng.Intn(1<<rng.Intn(7)))
		if checkRound(t, l) {
			parsed++
		}
		checkCheck(t, l)
		checkCheck(t, l[:rng.Intn(len(l))])
		for i := range l {
			checkEnd(t, l, i)
		}
	}
	if parsed < 10000 {
		t.Errorf("only %d trees are shown within the limit", parsed)
	}
}

// P15.5: all kinds with all kinds as their children, and one level more.
func TestRoundPairs(t *testing.T) {
	leaves := [][]api.Node{set("a"), of(except(among("\n"))), none()}
	trees := leaves
	for range 2 {
		var more [][]api.Node
		for i, a := range trees {
			more = append(more, star(a), plus(a), opt(a), repeat(0, 0, a), repeat(2, -1, a), repeat(2, 3, a))
			for j := 0; j < len(trees) && j < 12; j++ {
				b := trees[(i+j)%len(trees)]
				more = append(more, cat(a, b), alt(a, b), cat(b, leaves[0], a), alt(leaves[0], b, a))
			}
		}
		trees = append(slices.Clone(leaves), more...)
	}
	for _, l := range trees {
		checkRound(t, l)
	}
	if len(trees) < 3000 {
		t.Errorf("only %d trees", len(trees))
	}
}

// P15.5 and P15.1: expressions that parse have a tree that is shown and parsed again.
func FuzzParse(f *testing.F) {
	for _, s := range []string{"", "a|b*", "(a", "[^a-c\\d]{2,3}", "(|a+)?\\x00", "[b-a]", "[]", "a{31}", "((a)(b|))", "[^]"} {
		f.Add(s)
	}
	f.Fuzz(func(t *testing.T, s string) {
		checkModel(t, s)
		if l, e, _ := regex.Parse(s); e == api.OK {
			checkRound(t, l)
			checkEmpty(t, l)
		}
	})
}

// P15.2 and P15.5: lists of nodes of any bytes, against the model.
func FuzzCheck(f *testing.F) {
	f.Add([]byte{3, 2, 0, 0, 0, 1, 0, 1, 0, 0, 2, 0, 0, 0, 0})
	f.Add([]byte{8, 1, 0, 2, 255, 4, 3, 0, 0, 0, 2, 0, 0, 0, 0, 2, 0, 0, 0, 0, 1, 0, 255, 0, 0})
	f.Fuzz(func(t *testing.T, b []byte) {
		var l []api.Node
		for ; len(b) >= 5; b = b[5:] {
			x := api.Node{Kind: int(int8(b[0])), Kids: int(int8(b[1])), Low: int(int8(b[3])), High: int(int8(b[4]))}
			x.Set[b[2]&3] = uint64(b[2])
			l = append(l, x)
		}
		checkCheck(t, l)
		for i := range len(l) + 2 {
			checkEnd(t, l, i-1)
		}
		checkEmpty(t, l)
		if regex.Check(l) == api.OK {
			checkRound(t, l)
		} else if s := regex.Show(l); s != "" {
			t.Errorf("%v is shown as %q", l, s)
		}
	})
}
