package regex_test

import (
	"testing"

	"collimator/api"
	"collimator/regex"
)

func checkShow(t *testing.T, l []api.Node, want string) {
	t.Helper()
	if s := regex.Show(l); s != want {
		t.Errorf("%v is shown as %q; want %q", l, s, want)
	}
}

// P15.3: each kind alone.
func TestShowKinds(t *testing.T) {
	a, b := set("a"), set("b")
	checkShow(t, a, "a")
	checkShow(t, set("ab"), "[ab]")
	checkShow(t, set("abcd"), "[a-d]")
	checkShow(t, set("\n"), `\n`)
	checkShow(t, set("*"), `\*`)
	checkShow(t, set("\x80"), `\x80`)
	checkShow(t, of(except(among("\n"))), `[^\n]`)
	checkShow(t, of(between(0, 255)), "[^]")
	checkShow(t, none(), "()")
	checkShow(t, cat(a, b, a), "aba")
	checkShow(t, alt(a, b, a), "a|b|a")
	checkShow(t, star(a), "a*")
	checkShow(t, plus(a), "a+")
	checkShow(t, opt(a), "a?")
	checkShow(t, repeat(2, 3, a), "a{2,3}")
}

// P15.3: each form of a repetition.
func TestShowNumbers(t *testing.T) {
	a := set("a")
	for _, c := range []struct {
		low, high int
		want      string
	}{
		{0, 0, "a{0}"}, {1, 1, "a{1}"}, {10, 10, "a{10}"}, {30, 30, "a{30}"},
		{0, -1, "a{0,}"}, {1, -1, "a{1,}"}, {30, -1, "a{30,}"},
		{0, 1, "a{0,1}"}, {0, 30, "a{0,30}"}, {9, 10, "a{9,10}"}, {29, 30, "a{29,30}"},
	} {
		checkShow(t, repeat(c.low, c.high, a), c.want)
	}
}

// P15.3: each kind as the child of each other kind. What is in parentheses depends on both.
func TestShowChildren(t *testing.T) {
	x, y := set("x"), set("y")
	kids := [][]api.Node{set("ab"), none(), cat(x, y), alt(x, y), star(x), plus(x), opt(x), repeat(2, -1, x)}
	bare := []string{"[ab]", "()", "xy", "x|y", "x*", "x+", "x?", "x{2,}"}
	inCat := []string{"[ab]", "()", "(xy)", "(x|y)", "x*", "x+", "x?", "x{2,}"}
	inAlt := []string{"[ab]", "()", "xy", "(x|y)", "x*", "x+", "x?", "x{2,}"}
	inSign := []string{"[ab]", "()", "(xy)", "(x|y)", "(x*)", "(x+)", "(x?)", "(x{2,})"}
	for i, kid := range kids {
		checkShow(t, kid, bare[i])
		checkShow(t, cat(kid, kid), inCat[i]+inCat[i])
		checkShow(t, cat(y, kid, x), "y"+inCat[i]+"x")
		checkShow(t, alt(kid, kid), inAlt[i]+"|"+inAlt[i])
		checkShow(t, alt(y, kid, x), "y|"+inAlt[i]+"|x")
		checkShow(t, star(kid), inSign[i]+"*")
		checkShow(t, plus(kid), inSign[i]+"+")
		checkShow(t, opt(kid), inSign[i]+"?")
		checkShow(t, repeat(1, 1, kid), inSign[i]+"{1}")
		checkShow(t, repeat(0, -1, kid), inSign[i]+"{0,}")
		checkShow(t, repeat(3, 4, kid), inSign[i]+"{3,4}")
		checkRound(t, cat(kid, kid))
		checkRound(t, alt(kid, kid))
		checkRound(t, star(kid))
	}
}

// P15.3: trees of several levels.
func TestShowDeep(t *testing.T) {
	x, y := set("x"), set("y")
	checkShow(t, star(alt(cat(x, alt(x, y)), none())), "(x(x|y)|())*")
	checkShow(t, cat(cat(cat(x, y), x), y), "((xy)x)y")
	checkShow(t, alt(alt(alt(x, y), x), y), "((x|y)|x)|y")
	checkShow(t, opt(plus(star(x))), "((x*)+)?")
	checkShow(t, repeat(2, 2, repeat(3, 3, x)), "(x{3}){2}")
	checkShow(t, alt(cat(x, none()), cat(alt(y, none()), star(y))), "x()|(y|())y*")
}

// P15.3: what is not a valid tree is not shown.
func TestShowInvalid(t *testing.T) {
	x := set("x")
	for _, l := range [][]api.Node{
		nil, {}, {{}}, {{Kind: api.RSet}}, cat(x), alt(x), cat(), node(api.Node{Kind: api.RStar}, nil),
		repeat(2, 1, x), repeat(0, 31, x), repeat(-1, 2, x), repeat(0, -2, x), append(x, x...), star(x)[:1],
	} {
		checkShow(t, l, "")
	}
}
