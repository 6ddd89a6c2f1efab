package regex_test

import (
	"fmt"
	"math/rand"
	"regexp"
	"strings"
	"testing"

	"collimator/api"
	"collimator/regex"
)

// modelEmpty computes from the last node to the first one which of them match the empty string.
func modelEmpty(l []api.Node) bool {
	if modelCheck(l) != api.OK {
		return false
	}
	var stack []bool // the answers of the trees that begin behind a node, the next one last
	for i := len(l) - 1; i >= 0; i-- {
		x, rest := l[i], len(stack)-l[i].Kids
		matching := 0
		for _, yes := range stack[rest:] {
			if yes {
				matching++
			}
		}
		yes := matching == x.Kids && x.Kind != api.RSet
		switch {
		case x.Kind == api.RStar || x.Kind == api.ROpt || x.Kind == api.RRepeat && x.Low == 0:
			yes = true
		case x.Kind == api.RAlt:
			yes = matching > 0
		}
		stack = append(stack[:rest], yes)
	}
	return stack[0]
}

func checkEmpty(t *testing.T, l []api.Node) {
	t.Helper()
	if got, want := regex.Empty(l), modelEmpty(l); got != want {
		t.Errorf("Empty of %v is %t", l, got)
	}
}

// P15.4: each kind, with children that match the empty string and children that do not.
func TestEmpty(t *testing.T) {
	a, e := set("a"), none()
	for _, c := range []struct {
		l    []api.Node
		want bool
	}{
		{a, false}, {of(between(0, 255)), false}, {e, true},
		{cat(a, a), false}, {cat(e, a), false}, {cat(a, e), false}, {cat(e, e), true}, {cat(e, e, a), false}, {cat(star(a), opt(a), e), true},
		{alt(a, a), false}, {alt(e, a), true}, {alt(a, e), true}, {alt(a, a, e), true}, {alt(e, e), true}, {alt(a, star(a)), true},
		{star(a), true}, {star(e), true}, {opt(a), true}, {opt(e), true}, {plus(a), false}, {plus(e), true}, {plus(opt(a)), true}, {plus(plus(a)), false},
		{repeat(0, 0, a), true}, {repeat(0, 1, a), true}, {repeat(0, -1, a), true}, {repeat(1, 1, a), false}, {repeat(1, -1, a), false}, {repeat(30, 30, a), false},
		{repeat(1, 1, e), true}, {repeat(3, -1, star(a)), true}, {repeat(2, 5, alt(a, e)), true}, {repeat(2, 5, cat(a, e)), false},
		{star(plus(a)), true}, {plus(star(a)), true}, {cat(plus(a), star(a)), false}, {alt(cat(a, e), cat(e, e)), true},
	} {
		if got := regex.Empty(c.l); got != c.want {
			t.Errorf("Empty of %v is %t", c.l, got)
		}
		checkEmpty(t, c.l)
	}
}

// P15.4: what is not a valid tree matches nothing.
func TestEmptyInvalid(t *testing.T) {
	for _, l := range [][]api.Node{
		nil, {}, {{}}, {{Kind: api.RStar}}, {{Kind: api.RSet}}, {{Kind: api.REmpty, Low: 1}}, {{Kind: api.REmpty}, {Kind: api.REmpty}},
		cat(none()), alt(none()), repeat(0, 31, none()), repeat(0, -2, none()), star([]api.Node{{Kind: api.RSet}}), star(repeat(2, 1, none())),
		{{Kind: api.ROpt, Kids: -1}}, {{Kind: 9}},
	} {
		if regex.Empty(l) {
			t.Errorf("Empty of %v is true", l)
		}
	}
}

// P15.4: many trees, against the model and against Go's package regexp.
func TestEmptyRandom(t *testing.T) {
	rng := rand.New(rand.NewSource(154))
	held := 0
	for range 10000 {
		l := someTree(rng, 1+rng.Intn(20))
		checkEmpty(t, l)
		library, err := regexp.Compile("^(?:" + translated(l) + ")$")
		if err != nil { // its limit of repetitions within repetitions
			continue
		}
		held++
		if got := regex.Empty(l); got != library.MatchString("") {
			t.Errorf("Empty of %s is %t", regex.Show(l), got)
		}
	}
	if held < 5000 {
		t.Errorf("only %d trees could be held against the library", held)
	}
}

// translated is a tree as an expression of the library, with one byte in the place of each set.
func translated(l []api.Node) string {
	var kids []string
	for i := 1; i < len(l); i = modelEnd(l, i) {
		kids = append(kids, "(?:"+translated(l[i:modelEnd(l, i)])+")")
	}
	switch x := l[0]; x.Kind {
	case api.RSet:
		return "a"
	case api.REmpty:
		return ""
	case api.RAlt:
		return strings.Join(kids, "|")
	case api.RCat:
		return strings.Join(kids, "")
	case api.RRepeat:
		if x.High < 0 {
			return fmt.Sprintf("%s{%d,}", kids[0], x.Low)
		}
		return fmt.Sprintf("%s{%d,%d}", kids[0], x.Low, x.High)
	default:
		return kids[0] + "*+?"[x.Kind-api.RStar:][:1]
	}
}
