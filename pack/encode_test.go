package pack_test

import (
	"slices"
	"strings"
	"testing"

	"collimator/api"
	"collimator/pack"
)

// P11.2, with the chapter's example: whole bytes, written down.
func TestEncode(t *testing.T) {
	for _, c := range []struct {
		l    []pack.Part
		want string
	}{
		{[]pack.Part{fixed("a")}, "\x4b\x04\x00"},
		{[]pack.Part{fixed("")}, "\x03\x00"},
		{[]pack.Part{stored("")}, "\x01\x00\x00\xff\xff"},
		{[]pack.Part{stored("ab")}, "\x01\x02\x00\xfd\xffab"},
		{[]pack.Part{stored("x"), stored("y")}, "\x00\x01\x00\xfe\xffx\x01\x01\x00\xfe\xffy"},
		// The literal a and a copy of 3 from 1 byte before: 1 10 10010001 0000001 00000 0000000.
		{[]pack.Part{fixed("a", copied(3, 1))}, "\x4b\x04\x02\x00"},
		{[]pack.Part{fixed(""), fixed("")}, "\x02\x0c\x00"},
		{[]pack.Part{fixed(""), stored("")}, "\x02\x04\x00\x00\xff\xff"},
	} {
		checkEncode(t, c.l, c.want, api.OK)
		check(t, c.l...)
	}
}

// Each symbol of a literal has its own code, with the bits in its own order.
func TestLiterals(t *testing.T) {
	eachKind(func(part func(string, ...api.Op) pack.Part) {
		all := []byte{}
		for b := range 256 {
			check(t, part(string([]byte{byte(b)})))
			all = append(all, byte(b))
		}
		check(t, part(string(all)))
		check(t, part(strings.Repeat(string(all), 3)), part(string(all)))
	})
}

// Only the last block is Final, whatever kinds there are in whatever order.
func TestFinal(t *testing.T) {
	some := []pack.Part{stored("stored"), fixed("fixed", copied(3, 5)), dynamic("dynamic", copied(9, 7)), stored(""), fixed(""), dynamic("")}
	for _, p := range some {
		check(t, p)
		for _, q := range some {
			check(t, p, q)
			for _, r := range some {
				check(t, p, q, r)
			}
		}
	}
}

// A Stored part is aligned wherever the part before it ends: literals of 9 bits move it on by one bit each.
func TestStoredAtEachBit(t *testing.T) {
	for n := range 8 {
		shift := strings.Repeat("\xff", n)
		check(t, fixed(shift), stored("stored"), fixed("a"))
		check(t, fixed(shift), stored(""), stored("a"), dynamic("a"))
		check(t, dynamic(shift), stored("stored"))
		check(t, fixed(shift), dynamic("dynamic"), stored(""))
	}
}

// P11.2: the error of Text is ahead of those of the headers and of the symbols, wherever they are.
func TestErrorOfTextFirst(t *testing.T) {
	unheaded := pack.Part{Kind: api.Dynamic}
	uncoded := dynamic("a", copied(3, 1))
	uncoded.Dists = []int{0}
	for _, p := range []pack.Part{unheaded, uncoded} {
		checkUnwritable(t, api.ErrArg, p)
		checkBad(t, api.ErrDist, p, fixed("", copied(3, 9)))
		checkBad(t, api.ErrDist, fixed("", copied(3, 9)), p)
	}
	none := dynamic("a")
	none.Lits[256] = 0
	checkUnwritable(t, api.ErrNone, none)
	checkBad(t, api.ErrArg, none, pack.Part{Kind: 3})
	checkBad(t, api.ErrDist, none, fixed("", copied(3, 2)))
	none.Ops = []api.Op{copied(3, 1)}
	checkBad(t, api.ErrDist, none)
}

// badHead is the error of block.Write for some lengths.
type badHead struct {
	lits, dists []int
	e           api.Errno
}

func badHeads() map[string]badHead {
	change := func(l []int, at, length int) []int {
		l[at] = length
		return l
	}
	return map[string]badHead{
		"no lengths":          {nil, nil, api.ErrArg},
		"no lits":             {nil, allDists(), api.ErrArg},
		"256 lits":            {slices.Repeat([]int{8}, 256), allDists(), api.ErrArg},
		"287 lits":            {append(allLits(), 0), allDists(), api.ErrArg},
		"no dists":            {allLits(), nil, api.ErrArg},
		"31 dists":            {allLits(), append(allDists(), 0), api.ErrArg},
		"no end":              {change(allLits(), 256, 0), allDists(), api.ErrNone},
		"no end, wrong lits":  {change(change(allLits(), 256, 0), 0, 16), allDists(), api.ErrNone},
		"a lit below 0":       {change(allLits(), 9, -1), allDists(), api.ErrArg},
		"a lit above 15":      {change(allLits(), 9, 16), allDists(), api.ErrArg},
		"too many lits":       {change(allLits(), 9, 7), allDists(), api.ErrOver},
		"too few lits":        {change(allLits(), 9, 9), allDists(), api.ErrUnder},
		"a dist below 0":      {allLits(), change(allDists(), 9, -1), api.ErrArg},
		"a dist above 15":     {allLits(), change(allDists(), 9, 16), api.ErrArg},
		"too many dists":      {allLits(), change(allDists(), 9, 4), api.ErrOver},
		"too few dists":       {allLits(), change(allDists(), 9, 6), api.ErrUnder},
		"one dist of 2 bits":  {allLits(), []int{2}, api.ErrUnder},
		"wrong lits, dists":   {change(allLits(), 9, 7), []int{2}, api.ErrOver},
		"an end, no literals": {change(make([]int, 257), 256, 2), allDists(), api.ErrUnder},
	}
}

// P11.2: the error of block.Write, in the first part and in later ones.
func TestHeaders(t *testing.T) {
	for name, c := range badHeads() {
		t.Run(name, func(t *testing.T) {
			for _, ops := range [][]api.Op{nil, lits("abc")} {
				p := pack.Part{Kind: api.Dynamic, Ops: ops, Lits: c.lits, Dists: c.dists}
				checkUnwritable(t, c.e, p)
				checkUnwritable(t, c.e, p, stored("abc"))
				checkUnwritable(t, c.e, stored("abc"), fixed("abc"), p)
				checkUnwritable(t, c.e, dynamic("abc"), p, dynamic("abc"))
			}
		})
	}
}

// withoutLit and withoutDist are a part in which one of the Lits, or of the Dists, is 0. All other lengths are a complete code.
func withoutLit(symbol int, ops ...api.Op) pack.Part {
	l := slices.Concat(slices.Repeat([]int{8}, 227), slices.Repeat([]int{9}, 58))
	return pack.Part{Kind: api.Dynamic, Ops: ops, Lits: slices.Insert(l, symbol, 0), Dists: allDists()}
}

func withoutDist(symbol int, ops ...api.Op) pack.Part {
	l := slices.Concat(slices.Repeat([]int{4}, 3), slices.Repeat([]int{5}, 26))
	return pack.Part{Kind: api.Dynamic, Ops: ops, Lits: allLits(), Dists: slices.Insert(l, symbol, 0)}
}

// P11.2: a literal, a length and a distance without a code, among those that have one.
func TestNoCode(t *testing.T) {
	for symbol := range 256 {
		without, other := byte(symbol), byte(symbol+1)
		check(t, withoutLit(symbol, api.Op{Lit: other}, copied(3, 1)))
		checkUnwritable(t, api.ErrArg, withoutLit(symbol, api.Op{Lit: without}))
		checkUnwritable(t, api.ErrArg, withoutLit(symbol, api.Op{Lit: other}, copied(3, 1), api.Op{Lit: without}, api.Op{Lit: other}))
	}
	for _, s := range modelLengths() {
		for _, other := range modelLengths() {
			p := withoutLit(257+s.number, api.Op{Lit: 'a'}, copied(other.base, 1))
			if s == other {
				checkUnwritable(t, api.ErrArg, p)
				checkUnwritable(t, api.ErrArg, stored("abc"), p, stored("abc"))
			} else {
				check(t, p)
			}
		}
	}
	before := stored(noise(32768))
	for _, s := range modelDists() {
		for _, other := range modelDists() {
			p := withoutDist(s.number, copied(3, other.base))
			if s == other {
				checkUnwritable(t, api.ErrArg, before, p)
			} else if other.number%7 == 0 {
				check(t, before, p)
			}
		}
	}
}

// P11.2: lists that end ahead of a symbol.
func TestShortLists(t *testing.T) {
	lits257 := append(slices.Repeat([]int{8}, 255), 9, 9)
	lits259 := append(slices.Repeat([]int{8}, 253), 9, 9, 9, 9, 9, 9)
	check(t, pack.Part{Kind: api.Dynamic, Ops: lits(noise(300)), Lits: lits257, Dists: []int{0}})
	checkUnwritable(t, api.ErrArg, pack.Part{Kind: api.Dynamic, Ops: append(lits("a"), copied(3, 1)), Lits: lits257, Dists: []int{1}})
	check(t, pack.Part{Kind: api.Dynamic, Ops: append(lits("a"), copied(4, 1)), Lits: lits259, Dists: []int{1}})
	checkUnwritable(t, api.ErrArg, pack.Part{Kind: api.Dynamic, Ops: append(lits("a"), copied(5, 1)), Lits: lits259, Dists: []int{1}})
	checkUnwritable(t, api.ErrArg, pack.Part{Kind: api.Dynamic, Ops: append(lits("a"), copied(258, 1)), Lits: lits259, Dists: []int{1}})
	// Of the distances: no code, one code, and two of which the second one is beyond the first list.
	checkUnwritable(t, api.ErrArg, pack.Part{Kind: api.Dynamic, Ops: append(lits("ab"), copied(3, 1)), Lits: lits259, Dists: []int{0}})
	checkUnwritable(t, api.ErrArg, pack.Part{Kind: api.Dynamic, Ops: append(lits("ab"), copied(3, 2)), Lits: lits259, Dists: []int{1}})
	check(t, pack.Part{Kind: api.Dynamic, Ops: append(lits("ab"), copied(3, 2)), Lits: lits259, Dists: []int{1, 1}})
	check(t, pack.Part{Kind: api.Dynamic, Ops: append(lits("ab"), copied(3, 2)), Lits: lits259, Dists: []int{0, 1}})
	// Only the end of the block has a code.
	end := append(make([]int, 256), 1)
	check(t, pack.Part{Kind: api.Dynamic, Lits: end, Dists: []int{0}})
	checkUnwritable(t, api.ErrArg, pack.Part{Kind: api.Dynamic, Ops: lits("a"), Lits: end, Dists: []int{0}})
	checkUnwritable(t, api.ErrArg, stored("abc"), pack.Part{Kind: api.Dynamic, Ops: []api.Op{copied(3, 1)}, Lits: end, Dists: []int{1}})
}

// P11.2: of the errors of several parts the first one.
func TestFirstErrorOfEncode(t *testing.T) {
	none := dynamic("a")
	none.Lits[256] = 0
	over := dynamic("a")
	over.Dists[9] = 4
	uncoded := withoutLit('a', lits("a")...)
	checkUnwritable(t, api.ErrNone, none, over, uncoded)
	checkUnwritable(t, api.ErrOver, over, none, uncoded)
	checkUnwritable(t, api.ErrArg, uncoded, none, over)
	checkUnwritable(t, api.ErrNone, stored("a"), none, uncoded)
	checkUnwritable(t, api.ErrOver, fixed("a"), stored("a"), over, uncoded, none)
	// The header of a part is ahead of its own symbols.
	uncoded.Lits[256] = 0
	checkUnwritable(t, api.ErrNone, uncoded)
}

// Codes of all sizes, which are used more than once, in more than one part.
func TestLongCodes(t *testing.T) {
	long := make([]int, 286)
	for i := range 14 {
		long['a'+i] = i + 1
	}
	long[256], long[257] = 15, 15
	p := pack.Part{Kind: api.Dynamic, Ops: append(lits("abcdefghijklmnnmlkjihgfedcbaabc"), copied(3, 3), copied(3, 1)), Lits: long, Dists: []int{1, 2, 15, 3, 4, 5, 6, 7, 8, 9, 10, 11, 12, 13, 14, 15}}
	check(t, p)
	check(t, p, p, stored("x"), p, fixed("abc"), dynamic("abc"), p)
	q := dynamic("abc", copied(3, 1))
	check(t, p, q, p, q)
}

// R4: what is passed is neither changed, nor anything that there is room for behind it.
func TestPartsAreUnchanged(t *testing.T) {
	ops := append(lits("abc"), copied(9, 2), copied(7, 7))
	codes := append(allLits(), 7, 7)
	parts := []pack.Part{stored("abc"), {Kind: api.Fixed, Ops: ops[:3]}, {Kind: api.Dynamic, Ops: ops[:4], Lits: codes[:286], Dists: allDists()}, {Kind: 9}, {Kind: 9}}
	l := parts[:3]
	text, e := pack.Text(l)
	if text != "abc"+"abc"+"abc"+"bcbcbcbcb" || e != api.OK {
		t.Fatalf("Text = %q, %d", text, e)
	}
	check(t, l...)
	if !slices.Equal(ops, append(lits("abc"), copied(9, 2), copied(7, 7))) || !slices.Equal(codes, append(allLits(), 7, 7)) {
		t.Error("the ops or the lengths were changed")
	}
	if parts[3].Kind != 9 || parts[4].Kind != 9 || len(parts[1].Ops) != 3 || !slices.Equal(parts[2].Dists, allDists()) {
		t.Error("the parts were changed")
	}
}
