package nfa

import (
	"collimator/api"
	"collimator/regex"
)

// maxSize is the greatest size that is told.
const maxSize = 1000000

// unbounded is the High of a repetition without an upper bound.
const unbounded = -1

// Size is the number of states that a valid tree needs, but at most maxSize, or 0 for nodes that are no valid tree.
func Size(l []api.Node) int {
	if regex.Check(l) != api.OK {
		return 0
	}
	n, _ := size(l)
	return n
}

// size is the size of the tree that some nodes begin with, and the nodes behind it.
func size(l []api.Node) (int, []api.Node) {
	root, rest := l[0], l[1:]
	n := 0
	for range root.Kids {
		var kid int
		kid, rest = size(rest)
		n += kid
	}
	if root.Kind != api.RCat {
		n = 2 + copies(bounds(root))*n
	}
	// Without the limit at each node, repetitions within repetitions would overflow.
	return min(n, maxSize), rest
}

// bounds are how often the children of a node must and may follow one another.
func bounds(x api.Node) (low, high int) {
	switch x.Kind {
	case api.RStar:
		return 0, unbounded
	case api.RPlus:
		return 1, unbounded
	case api.ROpt:
		return 0, 1
	case api.RRepeat:
		return x.Low, x.High
	}
	return 1, 1
}

// copies is how many copies of its child a repetition consists of. One without an upper bound goes through the last copy again and again.
func copies(low, high int) int {
	if high == unbounded {
		return max(low, 1)
	}
	return high
}

// Make is the automaton that ends in a state of a rule after exactly those texts that the tree of that number matches.
func Make(l [][]api.Node) (api.Nfa, api.Errno) {
	if e := check(l); e != api.OK {
		return api.Nfa{}, e
	}
	var n api.Nfa
	n.First = state(&n)
	for rule, tree := range l {
		create, _ := planned(&n, tree)
		from, to := create()
		free(&n, n.First, from)
		n.Rules[to] = rule
	}
	return n, api.OK
}

// check tells whether an automaton can be made of some trees.
func check(l [][]api.Node) api.Errno {
	if len(l) == 0 {
		return api.ErrEmpty
	}
	if len(l) > api.MaxRules {
		return api.ErrBig
	}
	states := 1
	for _, tree := range l {
		n := Size(tree)
		if n == 0 {
			return api.ErrForm
		}
		states += n
	}
	if states > api.MaxNfa {
		return api.ErrBig
	}
	return api.OK
}

// A plan is a closure over a growing automaton. Each call creates the states of a tree once more, and tells at which one a text enters them and at which one it leaves them if the tree matches it. No edge leads to the former or from the latter yet.
type plan func() (from, to int)

// planned is the plan of the tree that some nodes begin with, and the nodes behind it.
func planned(n *api.Nfa, l []api.Node) (plan, []api.Node) {
	root, rest := l[0], l[1:]
	kids := make([]plan, root.Kids)
	for i := range kids {
		kids[i], rest = planned(n, rest)
	}
	switch root.Kind {
	case api.RSet:
		return single(n, api.Edge{Set: root.Set}), rest
	case api.REmpty:
		return single(n, api.Edge{Free: true}), rest
	case api.RCat:
		return chain(n, kids), rest
	case api.RAlt:
		return choice(n, kids), rest
	}
	low, high := bounds(root)
	return repetition(n, kids[0], low, high), rest
}

// single is the plan of two states with an edge between them.
func single(n *api.Nfa, e api.Edge) plan {
	return func() (int, int) {
		from, to := state(n), state(n)
		join(n, from, to, e)
		return from, to
	}
}

func chain(n *api.Nfa, kids []plan) plan {
	return func() (int, int) {
		from, to := kids[0]()
		for _, kid := range kids[1:] {
			next, end := kid()
			free(n, to, next)
			to = end
		}
		return from, to
	}
}

func choice(n *api.Nfa, kids []plan) plan {
	return func() (int, int) {
		from, to := state(n), state(n)
		for _, kid := range kids {
			start, end := kid()
			free(n, from, start)
			free(n, end, to)
		}
		return from, to
	}
}

func repetition(n *api.Nfa, kid plan, low, high int) plan {
	return func() (int, int) {
		from, to := state(n), state(n)
		start, end := from, from
		for i := range copies(low, high) {
			if i >= low {
				free(n, end, to)
			}
			before := end
			start, end = kid()
			free(n, before, start)
		}
		free(n, end, to)
		if high == unbounded {
			free(n, end, start)
		}
		return from, to
	}
}

// state adds a state without edges and without a rule.
func state(n *api.Nfa) int {
	n.Edges = append(n.Edges, nil)
	n.Rules = append(n.Rules, noRule)
	return len(n.Edges) - 1
}

// join adds an edge between two states.
func join(n *api.Nfa, from, to int, e api.Edge) {
	e.To = to
	n.Edges[from] = append(n.Edges[from], e)
}

func free(n *api.Nfa, from, to int) {
	join(n, from, to, api.Edge{Free: true})
}
