package pack_test

import (
	"math"
	"strings"
	"testing"

	"collimator/api"
	"collimator/pack"
)

// P11.1: each kind of part, alone and behind others.
func TestText(t *testing.T) {
	for _, c := range []struct {
		l    []pack.Part
		want string
	}{
		{[]pack.Part{stored("")}, ""},
		{[]pack.Part{stored("stored")}, "stored"},
		{[]pack.Part{fixed("")}, ""},
		{[]pack.Part{fixed("fixed")}, "fixed"},
		{[]pack.Part{fixed("abc", copied(3, 3))}, "abcabc"},
		{[]pack.Part{fixed("abc", copied(3, 2), api.Op{Lit: 'x'})}, "abcbcbx"},
		{[]pack.Part{fixed("abc", copied(3, 1), copied(4, 6))}, "abccccabcc"},
		{[]pack.Part{dynamic("abc", copied(3, 1))}, "abcccc"},
		{[]pack.Part{dynamic("")}, ""},
		{[]pack.Part{{Kind: api.Dynamic, Ops: lits("abc")}}, "abc"},
		{[]pack.Part{{}}, ""},
		{[]pack.Part{{}, {}, {}}, ""},
		{[]pack.Part{stored("abc"), fixed("d", copied(4, 4)), stored("e"), stored(""), dynamic("", copied(3, 9), copied(3, 1))}, "abcdabcdeabcccc"},
		{[]pack.Part{fixed("\x00\xff", copied(3, 2)), stored("\x80\n")}, "\x00\xff\x00\xff\x00\x80\n"},
	} {
		checkText(t, c.l, c.want, api.OK)
	}
}

// P11.1 and P11.2: there must be a part.
func TestNoParts(t *testing.T) {
	checkBad(t, api.ErrEmpty)
	checkText(t, []pack.Part{}, "", api.ErrEmpty)
	checkEncode(t, []pack.Part{}, "", api.ErrEmpty)
	checkText(t, make([]pack.Part, 0, 3), "", api.ErrEmpty)
}

// P11.1: a part of no kind, at each place among parts.
func TestKinds(t *testing.T) {
	for _, kind := range []int{-1, 3, 4, 256, math.MinInt, math.MaxInt, 1 << 32, 1<<32 + 1, -1 << 32, math.MinInt + 2} {
		bad := pack.Part{Kind: kind, Text: "abc", Ops: lits("abc"), Lits: allLits(), Dists: allDists()}
		checkBad(t, api.ErrArg, bad)
		checkBad(t, api.ErrArg, pack.Part{Kind: kind})
		checkBad(t, api.ErrArg, stored("abc"), bad)
		checkBad(t, api.ErrArg, fixed("abc"), bad, dynamic("abc"))
		checkBad(t, api.ErrArg, bad, stored("abc"))
	}
}

// P11.1: the size of a Stored part; the text of other parts is ignored.
func TestStoredSizes(t *testing.T) {
	for _, size := range []int{0, 1, 2, 255, 256, 65534, 65535} {
		check(t, stored(noise(size)))
		check(t, fixed("abc"), stored(noise(size)), stored(noise(size)), dynamic("abc", copied(3, 3)))
	}
	for _, size := range []int{65536, 65537, 100000, 131072} {
		checkBad(t, api.ErrArg, stored(noise(size)))
		checkBad(t, api.ErrArg, stored("abc"), fixed("abc"), stored(noise(size)))
		check(t, pack.Part{Kind: api.Fixed, Text: noise(size), Ops: lits("abc")})
		p := dynamic("abc")
		p.Text = noise(size)
		check(t, p)
	}
}

// eachKind calls f for a part of each kind that has ops: literals and, behind them, other ops.
func eachKind(f func(part func(text string, behind ...api.Op) pack.Part)) {
	f(fixed)
	f(dynamic)
}

// P11.1: the length of a copy.
func TestLengths(t *testing.T) {
	eachKind(func(part func(string, ...api.Op) pack.Part) {
		for n := 3; n <= 258; n++ {
			for _, dist := range []int{1, 4} {
				check(t, part("abcde", copied(n, dist)))
				check(t, stored("abc"), part("de", copied(n, dist), api.Op{Lit: 'f'}, copied(n, dist+1)))
			}
		}
		for _, n := range []int{-1, -2, -3, -258, 1, 2, 259, 260, 515, math.MinInt, math.MaxInt, 1 << 32, 1<<32 + 3, 3 - 1<<32, math.MinInt + 3} {
			checkBad(t, api.ErrArg, part("abcde", copied(n, 1)))
			checkBad(t, api.ErrArg, stored("abc"), part("", copied(3, 1), copied(n, 3), api.Op{Lit: 'f'}))
		}
	})
}

// P11.1: the distance of a copy.
func TestDists(t *testing.T) {
	before := stored(noise(40000))
	eachKind(func(part func(string, ...api.Op) pack.Part) {
		for _, s := range modelDists() {
			check(t, before, part("", copied(3, s.base), copied(258, s.base+1<<s.bits-1), copied(100, s.base)))
		}
		check(t, before, part("", copied(258, 32767), copied(3, 32768)))
		for _, dist := range []int{0, -1, -2, -32768, 32769, 40000, 65536, math.MinInt, math.MaxInt, 1 << 32, 1<<32 + 1, 1 - 1<<32, math.MinInt + 1} {
			checkBad(t, api.ErrArg, before, part("", copied(3, dist)))
			checkBad(t, api.ErrArg, part("a", copied(258, 1), copied(3, dist)))
		}
	})
}

// P11.1: a distance of one byte more than there are before it, in this part and in those before it.
func TestDistsAheadOfTheText(t *testing.T) {
	eachKind(func(part func(string, ...api.Op) pack.Part) {
		checkBad(t, api.ErrDist, part("", copied(3, 1)))
		checkBad(t, api.ErrDist, part("", copied(3, 32768)))
		checkBad(t, api.ErrDist, stored(""), part(""), part("", copied(258, 1)))
		for _, size := range []int{1, 2, 3, 100, 32766, 32767} {
			for _, n := range []int{3, 4, 258} {
				checkText(t, []pack.Part{part(noise(size), copied(n, size))}, noise(size)+strings.Repeat(noise(size), 259)[:n], api.OK)
				checkBad(t, api.ErrDist, part(noise(size), copied(n, size+1)))
				check(t, stored(noise(size)), part("", copied(n, size)))
				checkBad(t, api.ErrDist, stored(noise(size)), part("", copied(n, size+1)))
				checkBad(t, api.ErrDist, stored("a"), part("", copied(size%256+3, 1)), part("", copied(n, size%256+5)))
			}
		}
		check(t, stored(noise(32768)), part("", copied(3, 32768)))
	})
}

// P11.1: ErrArg of an op is ahead of its ErrDist.
func TestBothErrorsOfAnOp(t *testing.T) {
	eachKind(func(part func(string, ...api.Op) pack.Part) {
		for _, text := range []string{"", "abc"} {
			checkBad(t, api.ErrArg, part(text, copied(2, 4)))
			checkBad(t, api.ErrArg, part(text, copied(259, 32768)))
			checkBad(t, api.ErrArg, part(text, copied(-1, 100)))
			checkBad(t, api.ErrArg, part(text, copied(3, 32769)))
			checkBad(t, api.ErrArg, part(text, copied(1, 0)))
			checkBad(t, api.ErrDist, part(text, copied(3, 4)))
		}
	})
}

// P11.1: of several errors the first one, part by part and op by op.
func TestFirstError(t *testing.T) {
	arg, dist := copied(2, 1), copied(3, 9)
	big := stored(noise(65536))
	none := pack.Part{Kind: 3}
	eachKind(func(part func(string, ...api.Op) pack.Part) {
		checkBad(t, api.ErrDist, part("abc", dist, arg))
		checkBad(t, api.ErrArg, part("abc", arg, dist))
		checkBad(t, api.ErrDist, part("abc", dist), part("abc", arg))
		checkBad(t, api.ErrArg, part("abc", arg), part("abc", dist))
		checkBad(t, api.ErrDist, part("abc", dist), none)
		checkBad(t, api.ErrDist, part("abc", dist), big)
		checkBad(t, api.ErrArg, none, part("abc", dist))
		checkBad(t, api.ErrArg, big, part("abc", dist))
		// What an op before has produced is there for the next one, so that the error comes later.
		checkBad(t, api.ErrArg, part("abc", copied(6, 3), dist, arg))
		checkBad(t, api.ErrArg, stored("abcdefghi"), part("", dist), none)
	})
}

// P11.1 and P11.2: the fields that do not belong to a part's kind, or to an op, are ignored.
func TestIgnored(t *testing.T) {
	junk := []api.Op{copied(2, 1), copied(3, 40000), copied(3, 9), copied(-7, -7)}
	for _, lengths := range [][]int{nil, {-1}, {16, 1 << 40}, make([]int, 257), make([]int, 400)} {
		p := pack.Part{Kind: api.Stored, Text: "abc", Ops: junk, Lits: lengths, Dists: lengths}
		checkText(t, []pack.Part{p}, "abc", api.OK)
		checkEncode(t, []pack.Part{p}, "\x01\x03\x00\xfc\xffabc", api.OK)
		p = pack.Part{Kind: api.Fixed, Text: "text", Ops: lits("a"), Lits: lengths, Dists: lengths}
		checkText(t, []pack.Part{p}, "a", api.OK)
		checkEncode(t, []pack.Part{p}, "\x4b\x04\x00", api.OK)
	}
	p, want := dynamic("abc", copied(5, 2)), dynamic("abc", copied(5, 2))
	p.Text = noise(70000)
	s, e := modelEncode([]pack.Part{want})
	checkEncode(t, []pack.Part{p}, s, e)
	checkText(t, []pack.Part{p}, "abcbcbcb", api.OK)
	eachKind(func(part func(string, ...api.Op) pack.Part) {
		for _, dist := range []int{-1, 1, 9, 32768, 32769, math.MinInt, math.MaxInt} {
			s, e := modelEncode([]pack.Part{part("a", copied(3, 1))})
			l := []pack.Part{part("", api.Op{Lit: 'a', Dist: dist}, api.Op{Lit: byte(dist), Len: 3, Dist: 1})}
			checkText(t, l, "aaaa", api.OK)
			checkEncode(t, l, s, e)
		}
	})
}
