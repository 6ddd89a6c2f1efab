package regex_test

import (
	"math/rand"
	"regexp"
	"slices"
	"strconv"
	"strings"
	"testing"

	"collimator/api"
	"collimator/regex"
)

// setOf is the set of the bytes for which a condition holds, laid bit by bit.
func setOf(is func(c int) bool) api.Set {
	var a api.Set
	for c := range 256 {
		if is(c) {
			a[c/64] += 1 << (c % 64)
		}
	}
	return a
}

func among(s string) api.Set {
	return setOf(func(c int) bool { return strings.Contains(s, string([]byte{byte(c)})) })
}

func between(from, to int) api.Set {
	return setOf(func(c int) bool { return from <= c && c <= to })
}

func union(a, b api.Set) api.Set {
	return setOf(func(c int) bool { return (a[c/64]|b[c/64])>>(c%64)&1 == 1 })
}

func except(a api.Set) api.Set {
	return setOf(func(c int) bool { return a[c/64]>>(c%64)&1 == 0 })
}

// The trees of each kind.

func of(a api.Set) []api.Node {
	return []api.Node{{Kind: 1, Set: a}}
}

func set(s string) []api.Node {
	return of(among(s))
}

func none() []api.Node {
	return []api.Node{{Kind: 2}}
}

func node(x api.Node, kids [][]api.Node) []api.Node {
	x.Kids = len(kids)
	l := []api.Node{x}
	for _, kid := range kids {
		l = append(l, kid...)
	}
	return l
}

func cat(kids ...[]api.Node) []api.Node {
	return node(api.Node{Kind: 3}, kids)
}

func alt(kids ...[]api.Node) []api.Node {
	return node(api.Node{Kind: 4}, kids)
}

func star(kid []api.Node) []api.Node {
	return node(api.Node{Kind: 5}, [][]api.Node{kid})
}

func plus(kid []api.Node) []api.Node {
	return node(api.Node{Kind: 6}, [][]api.Node{kid})
}

func opt(kid []api.Node) []api.Node {
	return node(api.Node{Kind: 7}, [][]api.Node{kid})
}

func repeat(low, high int, kid []api.Node) []api.Node {
	return node(api.Node{Kind: 8, Low: low, High: high}, [][]api.Node{kid})
}

// times is a list of one tree several times.
func times(n int, l []api.Node) [][]api.Node {
	return slices.Repeat([][]api.Node{l}, n)
}

// A group of the model is what is known of a bracket that is still open: its alternatives but the last one, and the parts of the last one.
type group struct {
	at    int
	done  [][]api.Node
	parts [][]api.Node
}

func (g *group) bar() {
	switch len(g.parts) {
	case 0:
		g.done = append(g.done, none())
	case 1:
		g.done = append(g.done, g.parts[0])
	default:
		g.done = append(g.done, cat(g.parts...))
	}
	g.parts = nil
}

func (g *group) tree() []api.Node {
	g.bar()
	if len(g.done) == 1 {
		return g.done[0]
	}
	return alt(g.done...)
}

// model parses without recursion, with a stack of open groups.
func model(s string) ([]api.Node, api.Errno, int) {
	if len(s) > 512 {
		return nil, api.ErrBig, 512
	}
	stack := []*group{{at: -1}}
	for i := 0; i < len(s); {
		top := stack[len(stack)-1]
		last := len(top.parts) - 1
		switch c := s[i]; {
		case c == '(':
			stack = append(stack, &group{at: i})
			i++
		case c == ')' && len(stack) > 1:
			stack = stack[:len(stack)-1]
			under := stack[len(stack)-1]
			under.parts = append(under.parts, top.tree())
			i++
		case c == '|':
			top.bar()
			i++
		case strings.IndexByte("*+?{", c) >= 0 && last >= 0:
			x, next, e := modelSign(s, i)
			if e != api.OK {
				return nil, e, next
			}
			top.parts[last] = node(x, [][]api.Node{top.parts[last]})
			i = next
		case strings.IndexByte(")]{}*+?", c) >= 0:
			return nil, api.ErrChar, i
		default:
			a, next, e := modelSet(s, i)
			if e != api.OK {
				return nil, e, next
			}
			top.parts = append(top.parts, of(a))
			i = next
		}
	}
	if top := stack[len(stack)-1]; len(stack) > 1 {
		return nil, api.ErrOpen, top.at
	}
	l := stack[0].tree()
	if len(l) > 400 {
		return nil, api.ErrBig, 0
	}
	return l, api.OK, 0
}

// signs is an automaton of what may follow a {: to which state a digit, a comma and a } lead from each state. 0 is none, and 9 is the end.
var signs = [6][3]int{{1, 0, 0}, {2, 3, 9}, {0, 3, 9}, {4, 0, 9}, {5, 0, 9}, {0, 0, 9}}

// modelSign is the node of the sign of a repetition, and the index after it.
func modelSign(s string, i int) (api.Node, int, api.Errno) {
	if k := strings.IndexByte("*+?", s[i]); k >= 0 {
		return api.Node{Kind: 5 + k}, i + 1, api.OK
	}
	from := i
	for state := 0; state != 9; {
		i++
		if i == len(s) {
			return api.Node{}, i, api.ErrChar
		}
		k := strings.IndexByte("0123456789,}", s[i])
		if k < 0 || signs[state][max(k-9, 0)] == 0 {
			return api.Node{}, i, api.ErrChar
		}
		state = signs[state][max(k-9, 0)]
	}
	first, second, comma := strings.Cut(s[from+1:i], ",")
	low, _ := strconv.Atoi(first)
	high := low
	if comma {
		high = -1
	}
	if second != "" {
		high, _ = strconv.Atoi(second)
	}
	if low > 30 || high > 30 || second != "" && high < low {
		return api.Node{}, from, api.ErrRange
	}
	return api.Node{Kind: 8, Low: low, High: high}, i + 1, api.OK
}

var escapes = regexp.MustCompile(`^\\([ntsdw]|x[0-9a-f][0-9a-f]|[\\\[\](){}*+?|.\-^/"])`)

// modelEscape is the set of an escape, and the index after it.
func modelEscape(s string, i int) (api.Set, int, api.Errno) {
	found := escapes.FindString(s[i:])
	if found == "" {
		return api.Set{}, i + 1, api.ErrChar
	}
	next := i + len(found)
	switch found[1] {
	case 'n':
		return among("\n"), next, api.OK
	case 't':
		return among("\t"), next, api.OK
	case 's':
		return among(" "), next, api.OK
	case 'd':
		return between('0', '9'), next, api.OK
	case 'w':
		return among("abcdefghijklmnopqrstuvwxyz_0123456789ABCDEFGHIJKLMNOPQRSTUVWXYZ"), next, api.OK
	case 'x':
		c, _ := strconv.ParseInt(found[2:], 16, 32)
		return between(int(c), int(c)), next, api.OK
	}
	return among(found[1:]), next, api.OK
}

// modelSet is the set of a byte, an escape, a point or a class.
func modelSet(s string, i int) (api.Set, int, api.Errno) {
	switch s[i] {
	case '.':
		return setOf(func(c int) bool { return c != 10 }), i + 1, api.OK
	case '\\':
		return modelEscape(s, i)
	case '[':
		return modelClass(s, i)
	}
	return among(s[i : i+1]), i + 1, api.OK
}

// modelClass remembers what an item began with, if a minus sign may still follow it, and where that sign is, if it has been seen.
func modelClass(s string, open int) (api.Set, int, api.Errno) {
	var all, first api.Set
	i, dash, have := open+1, -1, false
	inverted := strings.HasPrefix(s[i:], "^")
	if inverted {
		i++
	}
	for i < len(s) {
		switch c := s[i]; {
		case c == ']' && dash < 0:
			if inverted {
				all = except(all)
			}
			if all == (api.Set{}) {
				return all, open, api.ErrEmpty
			}
			return all, i + 1, api.OK
		case c == '-' && have && dash < 0:
			dash = i
			i++
			continue
		case c == ']' || c == '-':
			return all, i, api.ErrChar
		}
		a, next, e := among(s[i:i+1]), i+1, api.OK
		if s[i] == '\\' {
			a, next, e = modelEscape(s, i)
		}
		if e != api.OK {
			return all, next, e
		}
		i = next
		if dash < 0 {
			first, all, have = a, union(all, a), true
			continue
		}
		from, to := single(first), single(a)
		if from < 0 || to < from {
			return all, dash, api.ErrRange
		}
		all, dash, have = union(all, between(from, to)), -1, false
	}
	return all, open, api.ErrOpen
}

// single is the byte of a set of one byte, or -1.
func single(a api.Set) int {
	found := -1
	for c := range 256 {
		if a[c/64]>>(c%64)&1 == 0 {
			continue
		}
		if found >= 0 {
			return -1
		}
		found = c
	}
	return found
}

// modelEnd is the index after a tree, found by recursion.
func modelEnd(l []api.Node, i int) int {
	if i < 0 || i >= len(l) || l[i].Kids < 0 {
		return -1
	}
	end := i + 1
	for range l[i].Kids {
		if end = modelEnd(l, end); end < 0 {
			return -1
		}
	}
	return end
}

// modelCheck rebuilds each node from the fields that its kind uses.
func modelCheck(l []api.Node) api.Errno {
	good := len(l) <= 400 && modelEnd(l, 0) == len(l)
	for _, x := range l {
		ok := false
		switch k := (api.Node{Kind: x.Kind, Kids: x.Kids}); {
		case x.Kind == 1:
			k.Set = x.Set
			ok = x == k && x.Kids == 0 && x.Set != api.Set{}
		case x.Kind == 2:
			ok = x == k && x.Kids == 0
		case x.Kind == 3 || x.Kind == 4:
			ok = x == k && x.Kids >= 2
		case x.Kind >= 5 && x.Kind <= 7:
			ok = x == k && x.Kids == 1
		case x.Kind == 8:
			k.Low, k.High = x.Low, x.High
			ok = x == k && x.Kids == 1 && x.Low >= 0 && x.Low <= 30 && (x.High == -1 || x.High >= x.Low && x.High <= 30)
		}
		good = good && ok
	}
	if good {
		return api.OK
	}
	return api.ErrForm
}

// checkTree expects that an expression has a tree, and that the tree is valid.
func checkTree(t *testing.T, s string, want []api.Node) {
	t.Helper()
	l, e, at := regex.Parse(s)
	if e != api.OK || at != 0 || !slices.Equal(l, want) {
		t.Errorf("Parse(%q) is %v, %d, %d; want %v", s, l, e, at, want)
	}
	if c := regex.Check(l); e == api.OK && c != api.OK {
		t.Errorf("Parse(%q) is %v, of which Check is %d", s, l, c)
	}
}

// checkFault expects that an expression has an error, and no tree.
func checkFault(t *testing.T, s string, want api.Errno, place int) {
	t.Helper()
	l, e, at := regex.Parse(s)
	if len(l) != 0 || e != want || at != place {
		t.Errorf("Parse(%q) is %v, %d, %d; want the error %d at %d", s, l, e, at, want, place)
	}
}

// checkModel holds an expression against the model.
func checkModel(t *testing.T, s string) {
	t.Helper()
	l, e, at := model(s)
	if e != api.OK {
		checkFault(t, s, e, at)
		return
	}
	checkTree(t, s, l)
}

// someSet is a set of one byte, of a few, of a range, or a complement of one of these.
func someSet(rng *rand.Rand) api.Set {
	c := rng.Intn(256)
	switch rng.Intn(6) {
	case 0:
		return between(c, min(c+rng.Intn(40), 255))
	case 1:
		return setOf(func(int) bool { return rng.Intn(20) == 0 })
	case 2:
		return except(between(c, c))
	case 3:
		return between(0, 255)
	}
	return between(c, c)
}

// someTree is a valid tree of at most some nodes.
func someTree(rng *rand.Rand, size int) []api.Node {
	kind := 1 + rng.Intn(8)
	switch {
	case size < 3 || kind < 3:
		if a := someSet(rng); kind != 2 && a != (api.Set{}) {
			return of(a)
		}
		return none()
	case kind < 5:
		var kids [][]api.Node
		for size--; size > 1 && len(kids) < 5 || len(kids) < 2; {
			kid := someTree(rng, max(1, min(size-1, 1+rng.Intn(size))))
			kids = append(kids, kid)
			size = max(1, size-len(kid))
		}
		return node(api.Node{Kind: kind}, kids)
	}
	x := api.Node{Kind: kind}
	if kind == 8 {
		x.Low = rng.Intn(31)
		x.High = [4]int{-1, x.Low, x.Low + rng.Intn(31-x.Low), 30}[rng.Intn(4)]
	}
	return node(x, [][]api.Node{someTree(rng, size-1)})
}
