package regex

import (
	"strconv"
	"strings"

	"collimator/api"
	"collimator/charset"
)

// Show is an expression whose tree a list of nodes is, or the empty string if it is not a valid tree.
func Show(l []api.Node) string {
	if Check(l) != api.OK {
		return ""
	}
	return show(l)
}

func show(l []api.Node) string {
	root, kids := l[0], children(l)
	switch root.Kind {
	case api.RSet:
		return charset.Show(root.Set)
	case api.REmpty:
		return "()"
	case api.RCat:
		return list(kids, "", api.RAlt, api.RCat)
	case api.RAlt:
		return list(kids, "|", api.RAlt)
	}
	return list(kids, "", api.RCat, api.RAlt, api.RStar, api.RPlus, api.ROpt, api.RRepeat) + sign(root)
}

// list is trees with a separator between them, where those of some kinds are in parentheses.
func list(trees [][]api.Node, between string, enclosed ...int) string {
	parts := make([]string, 0, len(trees))
	for _, l := range trees {
		parts = append(parts, enclose(l, enclosed))
	}
	return strings.Join(parts, between)
}

func enclose(l []api.Node, kinds []int) string {
	for _, kind := range kinds {
		if l[0].Kind == kind {
			return "(" + show(l) + ")"
		}
	}
	return show(l)
}

// sign is what a node of one child puts after it.
func sign(x api.Node) string {
	switch x.Kind {
	case api.RStar:
		return "*"
	case api.RPlus:
		return "+"
	case api.ROpt:
		return "?"
	}
	low, high := strconv.Itoa(x.Low), strconv.Itoa(x.High)
	switch x.High {
	case x.Low:
		return "{" + low + "}"
	case unbounded:
		return "{" + low + ",}"
	}
	return "{" + low + "," + high + "}"
}
