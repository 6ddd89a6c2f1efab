package pack

import "collimator/api"

const reach = 256 // how far back Ops looks for copies

// Ops returns ops that produce s: at each byte the longest copy that is possible, or else a literal.
func Ops(s string) []api.Op {
	var ops []api.Op
	back := backs(s)
	for at := 0; at < len(s); {
		op := best(s, back, at)
		ops = append(ops, op)
		at += produced(op)
	}
	return ops
}

// backs returns for each byte how far before it the next equal one is; 0 if there is none within reach. (Small numbers, because a text may be long.)
func backs(s string) []uint16 {
	back := make([]uint16, len(s))
	var behind [256]int // the place behind the last occurrence of each byte so far; 0: it has not occurred
	for at := range len(s) {
		if before := behind[s[at]]; before > 0 && at+1-before <= reach {
			back[at] = uint16(at + 1 - before)
		}
		behind[s[at]] = at + 1
	}
	return back
}

// best returns the longest copy, and of several the nearest one, or else the literal.
func best(s string, back []uint16, at int) api.Op {
	found := api.Op{Lit: s[at]}
	most := min(longest, len(s)-at)
	// A copy begins at a byte that is equal to this one. Where equal ones are farther apart than the reach, the next one is out of reach from here, too.
	for from := at; back[from] > 0 && found.Len < most; {
		from -= int(back[from])
		if at-from > reach {
			break
		}
		if n := common(s, from, at, most); n >= shortest && n > found.Len {
			found = api.Op{Len: n, Dist: at - from}
		}
	}
	return found
}

// common returns how many bytes from one place on are equal to those from the other one on, at most so many.
func common(s string, from, at, most int) int {
	n := 0
	for n < most && s[from+n] == s[at+n] {
		n++
	}
	return n
}

// Split divides s into pieces of n bytes, of which each other one becomes a Stored part, and the rest Fixed parts.
func Split(s string, n int) []Part {
	if n < 1 || n > mostStored {
		n = mostStored
	}
	var l []Part
	for i, piece := range pieces([]byte(s), n) {
		l = append(l, partOf(i, string(piece)))
	}
	return l
}

// pieces cuts a text into pieces of n bytes and the remaining ones. The capacity of each ends with its own bytes, so that nothing that is appended to it gets into the next one.
func pieces(text []byte, n int) [][]byte {
	var l [][]byte
	for len(text) > n {
		l = append(l, text[:n:n])
		text = text[n:]
	}
	return append(l, text[:len(text):len(text)])
}

// partOf returns the part of the piece with this index.
func partOf(i int, piece string) Part {
	if i%2 == 0 {
		return Part{Kind: api.Stored, Text: piece}
	}
	return Part{Kind: api.Fixed, Ops: Ops(piece)}
}
