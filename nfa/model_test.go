package nfa_test

import (
	"fmt"
	"math/big"
	"math/rand"
	"slices"
	"strings"
	"testing"

	"collimator/api"
	"collimator/nfa"
	"collimator/regex"
)

// setOf is the set of the bytes of a text, laid bit by bit.
func setOf(s string) api.Set {
	var a api.Set
	for _, c := range []byte(s) {
		a[c/64] |= 1 << (c % 64)
	}
	return a
}

func has(a api.Set, c byte) bool {
	return a[c/64]>>(c%64)&1 == 1
}

// The trees of each kind.

func set(s string) []api.Node {
	return []api.Node{{Kind: api.RSet, Set: setOf(s)}}
}

func none() []api.Node {
	return []api.Node{{Kind: api.REmpty}}
}

func node(x api.Node, kids [][]api.Node) []api.Node {
	x.Kids = len(kids)
	l := []api.Node{x}
	for _, kid := range kids {
		l = append(l, kid...)
	}
	return l
}

func cat(kids ...[]api.Node) []api.Node {
	return node(api.Node{Kind: api.RCat}, kids)
}

func alt(kids ...[]api.Node) []api.Node {
	return node(api.Node{Kind: api.RAlt}, kids)
}

func star(kid []api.Node) []api.Node {
	return node(api.Node{Kind: api.RStar}, [][]api.Node{kid})
}

func plus(kid []api.Node) []api.Node {
	return node(api.Node{Kind: api.RPlus}, [][]api.Node{kid})
}

func opt(kid []api.Node) []api.Node {
	return node(api.Node{Kind: api.ROpt}, [][]api.Node{kid})
}

func repeat(low, high int, kid []api.Node) []api.Node {
	return node(api.Node{Kind: api.RRepeat, Low: low, High: high}, [][]api.Node{kid})
}

// times is a list of one tree several times.
func times(n int, l []api.Node) [][]api.Node {
	return slices.Repeat([][]api.Node{l}, n)
}

// leaves is a tree of a byte several times; its size is twice that number.
func leaves(n int) []api.Node {
	return cat(times(n, set("a"))...)
}

// tree is the tree of an expression.
func tree(t *testing.T, s string) []api.Node {
	t.Helper()
	l, e, at := regex.Parse(s)
	if e != api.OK {
		t.Fatalf("Parse(%q): %d at %d", s, e, at)
	}
	return l
}

func trees(t *testing.T, texts ...string) [][]api.Node {
	t.Helper()
	var l [][]api.Node
	for _, s := range texts {
		l = append(l, tree(t, s))
	}
	return l
}

// made is the automaton of trees of which there is one.
func made(t *testing.T, l ...[]api.Node) api.Nfa {
	t.Helper()
	n, e := nfa.Make(l)
	if e != api.OK {
		t.Fatalf("Make of %v: %d", l, e)
	}
	if !nfa.Right(n) || !modelRight(n) {
		t.Fatalf("Make of %v is not valid: %v", l, n)
	}
	return n
}

// invalid are lists of nodes that are no valid trees.
func invalid() [][]api.Node {
	a := set("a")
	return [][]api.Node{
		nil, {}, {{}}, {{Kind: api.RSet}}, {{Kind: 9}}, {{Kind: -1}}, {{Kind: api.REmpty, Low: 1}}, {{Kind: api.REmpty, Set: setOf("a")}},
		slices.Concat(a, a), slices.Concat(star(a), a), cat(), cat(a), alt(a), alt(a, a)[:2], star(a)[:1], {{Kind: api.ROpt, Kids: -1}},
		node(api.Node{Kind: api.RPlus}, times(2, a)), repeat(2, 1, a), repeat(0, 31, a), repeat(31, -1, a), repeat(-1, 2, a), repeat(0, -2, a),
		star([]api.Node{{Kind: api.RSet}}), repeat(0, 0, repeat(2, 1, a)), cat(times(400, a)...),
	}
}

// children are the trees below the first node of a tree.
func children(l []api.Node) [][]api.Node {
	var kids [][]api.Node
	for i := 1; i < len(l); {
		end := i
		for open := 1; open > 0; end++ {
			open += l[end].Kids - 1
		}
		kids = append(kids, l[i:end])
		i = end
	}
	return kids
}

// modelSize computes without a limit, and cuts at the end.
func modelSize(l []api.Node) int {
	n := exactSize(l)
	if most := big.NewInt(1000000); n.Cmp(most) > 0 {
		n = most
	}
	return int(n.Int64())
}

func exactSize(l []api.Node) *big.Int {
	sum := new(big.Int)
	for _, kid := range children(l) {
		sum.Add(sum, exactSize(kid))
	}
	two := big.NewInt(2)
	switch x := l[0]; x.Kind {
	case api.RCat:
		return sum
	case api.RSet, api.REmpty:
		return two
	case api.RRepeat:
		k := x.High
		if x.High == -1 && x.Low > 0 {
			k = x.Low
		} else if x.High == -1 {
			k = 1
		}
		sum.Mul(sum, big.NewInt(int64(k)))
	}
	return two.Add(two, sum)
}

// places are offsets in a text.
type places []bool

func (p places) or(q places) places {
	l := slices.Clone(p)
	for i := range q {
		l[i] = l[i] || q[i]
	}
	return l
}

// reached is the plain definition of matching: where in a text the pieces end that a tree matches and that begin at some places.
func reached(l []api.Node, s string, from places) places {
	kids := children(l)
	once := func(p places) places { return reached(kids[0], s, p) }
	switch x := l[0]; x.Kind {
	case api.RSet:
		to := make(places, len(from))
		for i := range len(s) {
			to[i+1] = from[i] && has(x.Set, s[i])
		}
		return to
	case api.RCat:
		for _, kid := range kids {
			from = reached(kid, s, from)
		}
	case api.RAlt:
		to := make(places, len(from))
		for _, kid := range kids {
			to = to.or(reached(kid, s, from))
		}
		return to
	case api.RStar:
		return repeated(once, from, 0, -1)
	case api.RPlus:
		return repeated(once, from, 1, -1)
	case api.ROpt:
		return from.or(once(from))
	case api.RRepeat:
		return repeated(once, from, x.Low, x.High)
	}
	return from
}

// repeated goes on from some places low times, and then up to high times, or as long as there are new places.
func repeated(once func(places) places, from places, low, high int) places {
	for range low {
		from = once(from)
	}
	for i := low; i != high; i++ {
		more := from.or(once(from))
		if slices.Equal(more, from) {
			break
		}
		from = more
	}
	return from
}

func modelMatch(l []api.Node, s string) bool {
	from := make(places, len(s)+1)
	from[0] = true
	return reached(l, s, from)[len(s)]
}

// modelRules are the numbers of the trees that match a text.
func modelRules(l [][]api.Node, s string) []int {
	var rules []int
	for i := range l {
		if modelMatch(l[i], s) {
			rules = append(rules, i)
		}
	}
	return rules
}

func modelRight(n api.Nfa) bool {
	states := len(n.Edges)
	good := 1 <= states && states <= 3000 && len(n.Rules) == states && n.First >= 0 && n.First < states
	for _, l := range n.Edges {
		for _, e := range l {
			good = good && 0 <= e.To && e.To < states && !(e.Free && e.Set != setOf(""))
		}
	}
	for _, rule := range n.Rules {
		good = good && -1 <= rule && rule <= 31
	}
	return good
}

// modelClosure visits all edges until none leads to a new state.
func modelClosure(n api.Nfa, states []int) []int {
	in := make([]bool, len(n.Edges))
	for _, s := range states {
		if 0 <= s && s < len(in) {
			in[s] = true
		}
	}
	for more := true; more; {
		more = false
		for s, l := range n.Edges {
			for _, e := range l {
				if in[s] && e.Free && !in[e.To] {
					in[e.To], more = true, true
				}
			}
		}
	}
	return numbers(in)
}

// numbers are the indexes at which there is true.
func numbers(in []bool) []int {
	var l []int
	for i, yes := range in {
		if yes {
			l = append(l, i)
		}
	}
	return l
}

func modelStep(n api.Nfa, states []int, c byte) []int {
	var next []int
	for s, l := range n.Edges {
		for _, e := range l {
			if slices.Contains(states, s) && !e.Free && has(e.Set, c) {
				next = append(next, e.To)
			}
		}
	}
	return modelClosure(n, next)
}

func modelRun(n api.Nfa, s string) []int {
	states := modelClosure(n, []int{n.First})
	for _, c := range []byte(s) {
		states = modelStep(n, states, c)
	}
	var in [32]bool
	for _, s := range states {
		if n.Rules[s] >= 0 {
			in[n.Rules[s]] = true
		}
	}
	return numbers(in[:])
}

// checkStates expects a list of states or rules.
func checkStates(t *testing.T, what string, got, want []int) {
	t.Helper()
	if !slices.Equal(got, want) {
		t.Errorf("%s is %v; want %v", what, got, want)
	}
}

// checkRun expects of the automaton of some trees that its rules after a text are those that the plain definition tells.
func checkRun(t *testing.T, n api.Nfa, l [][]api.Node, s string) {
	t.Helper()
	if got, want := nfa.Run(n, s), modelRules(l, s); !slices.Equal(got, want) {
		var names []string
		for _, x := range l {
			names = append(names, regex.Show(x))
		}
		t.Errorf("%q: the rules after %q are %v; want %v", names, s, got, want)
	}
}

// checkParts holds an automaton against the models for some states and a text.
func checkParts(t *testing.T, n api.Nfa, states []int, s string) {
	t.Helper()
	what := fmt.Sprintf(" of %v in %v", states, n)
	checkStates(t, "Closure"+what, nfa.Closure(n, states), modelClosure(n, states))
	for _, c := range []byte(s) {
		checkStates(t, fmt.Sprintf("Step by %q", c)+what, nfa.Step(n, states, c), modelStep(n, states, c))
	}
	checkStates(t, fmt.Sprintf("Run of %q", s)+what, nfa.Run(n, s), modelRun(n, s))
}

// someTree is a valid tree of at most some nodes, with sets of the bytes a, b and c, and with numbers of repetitions that are mostly small.
func someTree(rng *rand.Rand, size int) []api.Node {
	kind := 1 + rng.Intn(8)
	switch {
	case size < 3 || kind < 3:
		if kind != 2 {
			return set([]string{"a", "b", "c", "ab", "bc", "abc"}[rng.Intn(6)])
		}
		return none()
	case kind < 5:
		var kids [][]api.Node
		for size--; size > 1 && len(kids) < 5 || len(kids) < 2; {
			kid := someTree(rng, max(1, min(size-1, 1+rng.Intn(size))))
			kids = append(kids, kid)
			size = max(1, size-len(kid))
		}
		return node(api.Node{Kind: kind}, kids)
	}
	x := api.Node{Kind: kind}
	if kind == api.RRepeat {
		x.Low = rng.Intn(4)
		x.High = [4]int{-1, x.Low, x.Low + rng.Intn(4), rng.Intn(4)}[rng.Intn(4)]
		if rng.Intn(20) == 0 {
			x.Low, x.High = rng.Intn(31), 30
		}
		if x.High >= 0 {
			x.High = max(x.Low, x.High)
		}
	}
	return node(x, [][]api.Node{someTree(rng, size-1)})
}

// someMatch is a text that a tree matches, with parts that are repeated up to twice more than they must.
func someMatch(rng *rand.Rand, l []api.Node) string {
	kids := children(l)
	low, high := 1, 1
	switch x := l[0]; x.Kind {
	case api.RSet:
		return string(rune("abc"[slices.IndexFunc([]byte("abc"), func(c byte) bool { return has(x.Set, c) })]))
	case api.REmpty:
		return ""
	case api.RAlt:
		return someMatch(rng, kids[rng.Intn(len(kids))])
	case api.RStar:
		low, high = 0, -1
	case api.RPlus:
		high = -1
	case api.ROpt:
		low = 0
	case api.RRepeat:
		low, high = x.Low, x.High
	}
	n := low + rng.Intn(3)
	if high >= 0 {
		n = min(n, high)
	}
	var s strings.Builder
	for range n {
		for _, kid := range kids {
			s.WriteString(someMatch(rng, kid))
		}
	}
	return s.String()
}

// someAutomaton is a valid automaton of some states, with edges of all kinds, also several between the same states.
func someAutomaton(rng *rand.Rand, states int) api.Nfa {
	n := api.Nfa{Edges: make([][]api.Edge, states), Rules: make([]int, states), First: rng.Intn(states)}
	for i := range states {
		n.Rules[i] = rng.Intn(6) - 1
		if rng.Intn(8) == 0 {
			n.Rules[i] = rng.Intn(33) - 1
		}
		for range rng.Intn(4) {
			e := api.Edge{To: rng.Intn(states), Free: rng.Intn(3) == 0}
			if !e.Free {
				e.Set = setOf([]string{"", "a", "b", "ab", "\x00\xff", "a\xff"}[rng.Intn(6)])
			}
			n.Edges[i] = append(n.Edges[i], e)
		}
	}
	return n
}

// someStates are numbers of an automaton's states, and some others, in any order and more than once.
func someStates(rng *rand.Rand, states int) []int {
	var l []int
	for range rng.Intn(6) {
		l = append(l, rng.Intn(states+4)-2)
	}
	return l
}
