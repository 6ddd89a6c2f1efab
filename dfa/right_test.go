package dfa_test

import (
	"math"
	"math/rand"
	"slices"
	"testing"

	"collimator/api"
)

// strange are numbers that are neither states nor rules nor classes of a small automaton.
var strange = []int{-2, -3, 256, 257, 1000, 1001, 1 << 32, 1<<32 + 1, math.MinInt, math.MaxInt}

// P18.1: 1 to 1000 states.
func TestRightStates(t *testing.T) {
	for _, states := range []int{1, 2, 999, 1000} {
		for _, classes := range []int{1, 2, 255, 256} {
			checkRight(t, "states", wide(states, classes))
		}
	}
	for _, states := range []int{0, 1001, 1002, 100000} {
		checkWrong(t, "too few or too many states", wide(states, 1))
	}
	checkWrong(t, "the zero automaton", api.Dfa{})
	checkWrong(t, "no states, empty lists", api.Dfa{Next: [][]int{}, Rules: []int{}})
}

// P18.1: as many elements in Rules as in Next.
func TestRightLengths(t *testing.T) {
	checkRight(t, "three", three())
	for _, rules := range [][]int{nil, {}, {-1}, {-1, 4}, {-1, 4, 0, -1}, slices.Repeat([]int{-1}, 1000), slices.Repeat([]int{-1}, 1001)} {
		d := three()
		d.Rules = rules
		checkWrong(t, "another number of rules", d)
	}
	for states := range 5 {
		d := three()
		d.Next = wide(states, 3).Next
		if states != 3 {
			checkWrong(t, "another number of rows", d)
		} else {
			checkRight(t, "other rows", d)
		}
	}
	checkWrong(t, "rules without states", api.Dfa{Rules: []int{0}})
	checkWrong(t, "a state without a rule", api.Dfa{Next: [][]int{{0}}})
	d := wide(1000, 1)
	d.Rules = d.Rules[:999]
	checkWrong(t, "999 rules", d)
	d = wide(1000, 1)
	d.Next = d.Next[:999]
	checkWrong(t, "1000 rules of 999 states", d)
}

// P18.1: the classes are numbered from 0 on, in the order of their first bytes.
func TestRightClasses(t *testing.T) {
	for classes := 1; classes <= 256; classes++ {
		d := wide(1, classes)
		checkRight(t, "classes in order", d)
		if classes < 256 {
			d.Class[255] = classes
			checkWrong(t, "a class more than the row has states", d)
			d.Next[0] = append(d.Next[0], 0)
			checkRight(t, "a class of the last byte", d)
			d.Class[255] = classes + 1
			checkWrong(t, "a class left out", d)
			d.Next[0] = append(d.Next[0], 0)
			checkWrong(t, "a class left out, and a state for it", d)
		}
	}
}

// P18.1: no two classes may be exchanged, and none may be missing.
func TestRightClassOrder(t *testing.T) {
	for i := range 256 {
		for _, k := range []int{i + 1, 255, 17} {
			if k > 255 || k == i {
				continue
			}
			d := wide(1, 256)
			d.Class[i], d.Class[k] = d.Class[k], d.Class[i]
			checkWrong(t, "two classes exchanged", d)
		}
	}
	for c := range 255 {
		d := wide(1, 256)
		d.Class[c] = 255
		checkWrong(t, "a class without a byte, and the last one too early", d)
	}
	for c := 1; c < 256; c++ {
		d := wide(1, 256)
		d.Class[c] = 0
		if c == 255 {
			checkWrong(t, "one class less than the row has states", d)
			d.Next[0] = d.Next[0][:255]
			checkRight(t, "255 classes", d)
		} else {
			checkWrong(t, "a class without a byte", d)
		}
	}
	d := three()
	d.Class['a'], d.Class['b'], d.Class['c'] = 2, 2, 1
	checkWrong(t, "the classes of a and c exchanged", d)
	d = three()
	d.Class[0] = 1
	checkWrong(t, "the first byte has the class 1", d)
	d = three()
	d.Class[0], d.Class[1] = 1, 2
	checkWrong(t, "the class 0 comes last", d)
	d = three()
	d.Class['a'], d.Class['b'] = 0, 0
	checkWrong(t, "no byte has the class 1", d)
	d = three()
	d.Class[255] = 2
	checkRight(t, "a class may come again", d)
	d.Class[254], d.Class['d'] = 1, 1
	checkRight(t, "and each of them", d)
}

// P18.1: classes that no row could have.
func TestRightStrangeClasses(t *testing.T) {
	for _, class := range append([]int{-1, 3, 4}, strange...) {
		for _, c := range []int{0, 'a', 'b', 'c', 'd', 255} {
			d := three()
			d.Class[c] = class
			checkWrong(t, "a strange class", d)
		}
	}
	for _, class := range []int{-1, 1, 2, 255, 256, math.MaxInt, math.MinInt} {
		d := wide(1, 1)
		for c := range 256 {
			d.Class[c] = class
		}
		checkWrong(t, "one class with another number", d)
		for c := range 256 {
			d.Class[c] = class + c
		}
		checkWrong(t, "classes from another number on", d)
	}
}

// P18.1: the row of each state has exactly one state for each class.
func TestRightRows(t *testing.T) {
	for state := range 3 {
		for _, row := range [][]int{nil, {}, {0}, {0, 0}, {0, 0, 0, 0}, slices.Repeat([]int{0}, 256), slices.Repeat([]int{0}, 1000)} {
			d := three()
			d.Next[state] = row
			checkWrong(t, "a row of another length", d)
		}
		d := three()
		d.Next[state] = []int{0, 0, 0}
		checkRight(t, "a row of states", d)
	}
	checkWrong(t, "a row without states", api.Dfa{Next: [][]int{nil}, Rules: []int{-1}})
	checkWrong(t, "an empty row", api.Dfa{Next: [][]int{{}}, Rules: []int{-1}})
	for _, classes := range []int{1, 256} {
		d := wide(1000, classes)
		d.Next[999] = d.Next[999][:classes-1]
		checkWrong(t, "the last row is too short", d)
		d.Next[999] = make([]int, classes+1)
		checkWrong(t, "the last row is too long", d)
	}
}

// P18.1: what a row has are states.
func TestRightTo(t *testing.T) {
	for state := range 3 {
		for class := range 3 {
			for to := range 3 {
				d := three()
				d.Next[state][class] = to
				checkRight(t, "a state", d)
			}
			for _, to := range append([]int{-1, 3, 4}, strange...) {
				d := three()
				d.Next[state][class] = to
				checkWrong(t, "no state", d)
			}
		}
	}
	d := wide(1000, 256)
	d.Next[999][255] = 999
	checkRight(t, "the last state leads to itself", d)
	d.Next[999][255] = 1000
	checkWrong(t, "the last state leads behind it", d)
	d.Next[999][255] = -1
	checkWrong(t, "the last state leads before the first", d)
}

// P18.1: each rule is from -1 to 31.
func TestRightRules(t *testing.T) {
	for state := range 3 {
		for rule := -1; rule < 32; rule++ {
			d := three()
			d.Rules[state] = rule
			checkRight(t, "a rule", d)
		}
		for _, rule := range append([]int{32, 33, 64}, strange...) {
			d := three()
			d.Rules[state] = rule
			checkWrong(t, "no rule", d)
		}
	}
	d := wide(1000, 1)
	d.Rules[999] = 31
	checkRight(t, "the last rule of the last state", d)
	d.Rules[999] = 32
	checkWrong(t, "a rule behind the last one", d)
	d.Rules[999] = -2
	checkWrong(t, "a rule before none", d)
}

// P18.1: it is not asked that states can be reached, that rules occur or that states differ.
func TestRightNeedless(t *testing.T) {
	checkRight(t, "no rules, one state reached", wide(1000, 256))
	d := wide(2, 256)
	d.Rules[0], d.Rules[1] = 5, 5
	checkRight(t, "equal states", d)
}

// P18.1: many automata with a number changed, against the model.
func TestRightRandom(t *testing.T) {
	rng := rand.New(rand.NewSource(181))
	valid := 0
	for range 20000 {
		d := someDfa(rng, 1+rng.Intn(5), 1+rng.Intn(5))
		state := rng.Intn(len(d.Next))
		row := d.Next[state]
		switch rng.Intn(5) {
		case 0:
			row[rng.Intn(len(row))] = rng.Intn(8) - 1
		case 1:
			d.Rules[state] = []int{-2, -1, 0, 31, 32}[rng.Intn(5)]
		case 2:
			d.Next[state] = slices.Repeat([]int{0}, rng.Intn(6))
		default:
			d.Class[rng.Intn(2)+rng.Intn(2)*rng.Intn(255)] = rng.Intn(7) - 1
		}
		if modelRight(d) {
			checkRight(t, "a changed automaton", d)
			valid++
		} else {
			checkWrong(t, "a changed automaton", d)
		}
	}
	if valid < 3000 || valid > 17000 {
		t.Errorf("%d valid automata", valid)
	}
}
