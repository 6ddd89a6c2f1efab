package dfa_test

import (
	"math"
	"math/rand"
	"testing"

	"collimator/api"
)

// P18.1: automata that are equal, though their memory is not shared.
func TestSame(t *testing.T) {
	rng := rand.New(rand.NewSource(182))
	for range 200 {
		d := someDfa(rng, 1+rng.Intn(9), 1+rng.Intn(256))
		checkSame(t, "itself", d, d, true)
		checkSame(t, "a copy", d, copied(d), true)
		checkSame(t, "three", d, three(), false)
	}
	checkSame(t, "large ones", wide(1000, 256), wide(1000, 256), true)
	checkSame(t, "a state more", wide(1000, 1), wide(999, 1), false)
	checkSame(t, "a class more", wide(1, 255), wide(1, 256), false)
}

// P18.1: automata that differ in one number, in each place of each part.
func TestSameNumbers(t *testing.T) {
	for _, change := range []int{1, -1, 1 << 8, 1 << 32, math.MinInt} {
		for c := range 256 {
			d := three()
			d.Class[c] += change
			checkSame(t, "a class", d, three(), false)
			checkSame(t, "a class in both", d, copied(d), true)
		}
		for state := range 3 {
			d := three()
			d.Rules[state] += change
			checkSame(t, "a rule", d, three(), false)
			checkSame(t, "a rule in both", d, copied(d), true)
			for class := range 3 {
				d := three()
				d.Next[state][class] += change
				checkSame(t, "a row's state", d, three(), false)
				checkSame(t, "a row's state in both", d, copied(d), true)
			}
		}
	}
	d := wide(1000, 256)
	d.Next[999][255] = 1
	checkSame(t, "the last state of the last row", d, wide(1000, 256), false)
	d = wide(1000, 256)
	d.Rules[999] = 0
	checkSame(t, "the last rule", d, wide(1000, 256), false)
}

// P18.1: automata that differ in one length, while the numbers that both have are equal.
func TestSameLengths(t *testing.T) {
	d := three()
	d.Next = d.Next[:2]
	checkSame(t, "a row less", d, three(), false)
	d = three()
	d.Next = append(d.Next, nil)
	checkSame(t, "an empty row more", d, three(), false)
	d = three()
	d.Rules = d.Rules[:2]
	checkSame(t, "a rule less", d, three(), false)
	d = three()
	d.Rules = append(d.Rules, 0)
	checkSame(t, "a rule more", d, three(), false)
	for state := range 3 {
		d = three()
		d.Next[state] = d.Next[state][:2]
		checkSame(t, "a row's state less", d, three(), false)
		d = three()
		d.Next[state] = append(d.Next[state], 0)
		checkSame(t, "a row's state more", d, three(), false)
		d = three()
		d.Next[state] = nil
		checkSame(t, "a row without states", d, three(), false)
	}
	checkSame(t, "nothing", api.Dfa{}, three(), false)
	checkSame(t, "rules alone", api.Dfa{Rules: []int{0}}, api.Dfa{}, false)
	checkSame(t, "a row alone", api.Dfa{Next: [][]int{nil}}, api.Dfa{}, false)
	d = three()
	d.Next[0], d.Next[1] = []int{0, 1, 2, 2}, []int{1, 0}
	checkSame(t, "the same numbers, divided otherwise", d, three(), false)
	checkSame(t, "numbers in the other list", api.Dfa{Next: [][]int{{0}}}, api.Dfa{Rules: []int{0}}, false)
}

// P18.1: rows and states in another order, and an automaton that does the same with other numbers.
func TestSameOrder(t *testing.T) {
	d := three()
	d.Next[0], d.Next[1] = d.Next[1], d.Next[0]
	checkSame(t, "rows exchanged", d, three(), false)
	d = three()
	d.Rules[0], d.Rules[1] = d.Rules[1], d.Rules[0]
	checkSame(t, "rules exchanged", d, three(), false)
	a := api.Dfa{Next: [][]int{{1}, {2}, {1}}, Rules: []int{-1, 0, 0}}
	b := api.Dfa{Next: [][]int{{2}, {2}, {1}}, Rules: []int{-1, 0, 0}}
	checkSame(t, "equivalent automata", a, b, false)
}

// P18.1 and R1: it is the numbers that count also where an automaton is not valid; nil and empty lists are equivalent.
func TestSameWrong(t *testing.T) {
	checkSame(t, "the zero automaton", api.Dfa{}, api.Dfa{}, true)
	checkSame(t, "nil and empty lists", api.Dfa{}, api.Dfa{Next: [][]int{}, Rules: []int{}}, true)
	checkSame(t, "nil and empty rows", api.Dfa{Next: [][]int{nil, {}}}, api.Dfa{Next: [][]int{{}, nil}}, true)
	var d api.Dfa
	d.Class[7] = -1
	checkSame(t, "a class below 0", d, d, true)
	checkSame(t, "a class below 0 in one", d, api.Dfa{}, false)
	d = api.Dfa{Next: [][]int{{-1, 7}, {3}}, Rules: []int{99, -99, 1}}
	checkSame(t, "no states, no rules", d, copied(d), true)
	checkSame(t, "too many states", wide(1001, 2), wide(1001, 2), true)
	checkSame(t, "too many states, another number", wide(1001, 2), wide(1002, 2), false)
}

// P18.1: Same is kept apart from capacities.
func TestSameCapacity(t *testing.T) {
	d := copied(three())
	d.Rules = append(make([]int, 0, 50), d.Rules...)
	for i, row := range d.Next {
		d.Next[i] = append(make([]int, 0, 50), row...)
	}
	d.Next = append(make([][]int, 0, 50), d.Next...)
	checkSame(t, "other capacities", d, three(), true)
}
