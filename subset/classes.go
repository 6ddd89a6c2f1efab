package subset

import (
	"collimator/api"
	"collimator/nfa"
)

// wordBytes is the number of bytes that each word of a set is for.
const wordBytes = 64

// Classes is the class of each byte, and how many classes there are. Two bytes have the same one if no edge separates them.
func Classes(n api.Nfa) ([256]int, int) {
	var class [256]int
	if !nfa.Right(n) {
		return class, 0
	}
	count := 1
	for _, edges := range n.Edges {
		for _, e := range edges {
			// A Free edge's set is empty: it divides nothing.
			class, count = divided(class, e.Set)
		}
	}
	return class, count
}

// divided is classes, each divided into the bytes that a set contains and those that it does not, and how many there are then. They are numbered in the order of their first bytes.
func divided(class [256]int, s api.Set) ([256]int, int) {
	var numbers [256][2]int // of the two parts of each class, from 1 on; 0: the part has none yet
	count := 0
	for c := range class {
		number := &numbers[class[c]][bit(s, byte(c))]
		if *number == 0 {
			count++
			*number = count
		}
		class[c] = *number - 1
	}
	return class, count
}

// firstBytes is the first byte of each class.
func firstBytes(class [256]int) []byte {
	var first []byte
	for c, number := range class {
		if number == len(first) {
			first = append(first, byte(c))
		}
	}
	return first
}

// bit is 1 if a set contains a byte, and 0 if it does not.
func bit(s api.Set, c byte) int {
	return int(s[c/wordBytes] >> (c % wordBytes) & 1)
}
