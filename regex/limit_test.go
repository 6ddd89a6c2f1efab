package regex_test

import (
	"slices"
	"strings"
	"testing"

	"collimator/api"
	"collimator/regex"
)

// P15.1: MaxRegex bytes are parsed, and with one more nothing else is told.
func TestParseLongest(t *testing.T) {
	long := "[" + strings.Repeat("a", 510) + "]"
	checkTree(t, long, set("a"))
	checkTree(t, strings.Repeat("(", 256)+strings.Repeat(")", 256), none())
	checkTree(t, strings.Repeat("(", 255)+"ab"+strings.Repeat(")", 255), cat(set("a"), set("b")))
	checkFault(t, strings.Repeat("(", 512), api.ErrOpen, 511)
	checkFault(t, strings.Repeat("a", 511)+")", api.ErrChar, 511)
	for _, s := range []string{long + "a", strings.Repeat("a", 513), strings.Repeat("*", 513), strings.Repeat("(", 600), strings.Repeat("\\", 1<<20), "[]" + long} {
		checkFault(t, s, api.ErrBig, 512)
	}
}

// P15.1: MaxAst nodes are returned; with one more, the other errors come first.
func TestParseMostNodes(t *testing.T) {
	a := set("a")
	checkTree(t, strings.Repeat("a", 399), cat(times(399, a)...))
	checkTree(t, strings.Repeat("a", 398)+"*", cat(append(times(397, a), star(a))...))
	checkTree(t, strings.Repeat("|", 398), alt(times(399, none())...))
	checkTree(t, "a"+strings.Repeat("*", 399), deep(400))
	checkTree(t, strings.Repeat("(a)", 50)+strings.Repeat("a", 349), cat(times(399, a)...))
	checkFault(t, strings.Repeat("a", 400), api.ErrBig, 0)
	checkFault(t, strings.Repeat("a", 398)+"**", api.ErrBig, 0)
	checkFault(t, strings.Repeat("|", 399), api.ErrBig, 0)
	checkFault(t, strings.Repeat("|", 512), api.ErrBig, 0)
	checkFault(t, "a"+strings.Repeat("*", 400), api.ErrBig, 0)
	checkFault(t, "a"+strings.Repeat("+", 511), api.ErrBig, 0)
	checkFault(t, strings.Repeat("a", 400)+")", api.ErrChar, 400)
	checkFault(t, strings.Repeat("a", 400)+"(", api.ErrOpen, 400)
	checkFault(t, strings.Repeat("a", 400)+"{31}", api.ErrRange, 400)
	checkFault(t, strings.Repeat("a", 400)+"[]", api.ErrEmpty, 400)
}

// deep is a chain of nodes, with one byte at its end.
func deep(nodes int) []api.Node {
	l := slices.Repeat([]api.Node{{Kind: api.RStar, Kids: 1}}, nodes)
	l[nodes-1] = set("a")[0]
	return l
}

// P15.2 to P15.4: trees of 400 nodes are valid, trees of 401 are not.
func TestMostNodes(t *testing.T) {
	wide := func(nodes int) []api.Node { return alt(times(nodes-1, set("a"))...) }
	for _, tree := range []func(int) []api.Node{deep, wide} {
		good, bad := tree(400), tree(401)
		if e := regex.Check(good); e != api.OK {
			t.Errorf("400 nodes: Check is %d", e)
		}
		if regex.Show(good) == "" {
			t.Error("400 nodes are not shown")
		}
		if e := regex.Check(bad); e != api.ErrForm {
			t.Errorf("401 nodes: Check is %d", e)
		}
		if s := regex.Show(bad); s != "" {
			t.Errorf("401 nodes are shown as %q", s)
		}
		if regex.Empty(bad) {
			t.Error("401 nodes match the empty string")
		}
		checkEnd(t, bad, 0)
		checkEnd(t, bad, 1)
	}
	if !regex.Empty(deep(400)) || regex.Empty(wide(400)) {
		t.Error("Empty is wrong for 400 nodes")
	}
}

// P15.2: End has no limit of its own.
func TestEndLong(t *testing.T) {
	const nodes = 1 << 20
	chain := deep(nodes)
	if end := regex.End(chain, 0); end != nodes {
		t.Errorf("the end of a chain is %d", end)
	}
	if end := regex.End(chain[:nodes-1], 0); end != -1 {
		t.Errorf("the end of a chain that is cut is %d", end)
	}
	flat := make([]api.Node, nodes)
	flat[0].Kids = nodes - 1
	if end := regex.End(flat, 0); end != nodes {
		t.Errorf("the end of a flat tree is %d", end)
	}
	flat[0].Kids++
	if end := regex.End(flat, 0); end != -1 {
		t.Errorf("the end of a flat tree that is cut is %d", end)
	}
}
