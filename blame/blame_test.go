package blame_test

import (
	"math"
	"strconv"
	"strings"
	"testing"

	"collimator/api"
	"collimator/blame"
)

// known are all known codes in their order, with their names and families as the chapter lists them.
func known() []struct {
	code   api.Errno
	name   string
	family int
} {
	return []struct {
		code   api.Errno
		name   string
		family int
	}{
		{api.OK, "ok", 0},
		{api.ErrArg, "argument", 5},
		{api.ErrShort, "short", 1},
		{api.ErrBig, "big", 4},
		{api.ErrForm, "form", 1},
		{api.ErrSum, "sum", 1},
		{api.ErrSize, "size", 1},
		{api.ErrOver, "over", 2},
		{api.ErrUnder, "under", 2},
		{api.ErrCode, "code", 2},
		{api.ErrDist, "distance", 2},
		{api.ErrBlock, "block", 2},
		{api.ErrMagic, "magic", 1},
		{api.ErrFlags, "flags", 1},
		{api.ErrMore, "more", 1},
		{api.ErrChar, "char", 3},
		{api.ErrOpen, "open", 3},
		{api.ErrEmpty, "empty", 3},
		{api.ErrRange, "range", 3},
		{api.ErrTwice, "twice", 3},
		{api.ErrName, "name", 3},
		{api.ErrNone, "none", 5},
		{api.ErrFull, "full", 4},
		{api.ErrPage, "page", 5},
		{api.ErrOrder, "order", 5},
		{api.ErrNil, "nil", 5},
		{api.ErrDiffer, "differ", 5},
		{api.ErrMatch, "match", 3},
	}
}

// unknown are codes on both sides of the known ones, and ones that a narrower number would confuse with a known one.
func unknown() []api.Errno {
	return []api.Errno{-1, -2, -27, -28, -99, math.MinInt, 28, 29, 99, 256, 257, 1 << 32, 1<<32 + 2, math.MaxInt - 1, math.MaxInt}
}

func positions() []int {
	return []int{0, 1, 9, 10, 4096, math.MaxInt - 1, math.MaxInt, -1, -9, -10, math.MinInt + 1, math.MinInt}
}

// linkOf is a link that a test expects.
type linkOf struct {
	code api.Errno
	at   int
}

func familyOf(code api.Errno) int {
	return known()[code].family
}

func text(links []linkOf) string {
	codes := known()
	var parts []string
	for _, l := range links {
		parts = append(parts, codes[l.code].name+" at "+strconv.Itoa(l.at))
	}
	return strings.Join(parts, ": ")
}

// check compares all that a blame says with the links that it must have, from the outermost one on.
func check(t *testing.T, b blame.Blame, links ...linkOf) {
	t.Helper()
	var outer, root linkOf
	family := 0
	if len(links) > 0 {
		outer, root = links[0], links[len(links)-1]
		family = familyOf(root.code)
	}
	if b.Code() != outer.code || b.At() != outer.at {
		t.Errorf("Code and At = %d, %d; want %v", b.Code(), b.At(), outer)
	}
	if code, at := b.Root(); code != root.code || at != root.at {
		t.Errorf("Root() = %d, %d; want %v", code, at, root)
	}
	if b.Deep() != len(links) {
		t.Errorf("Deep() = %d; want %d", b.Deep(), len(links))
	}
	if b.Family() != family {
		t.Errorf("Family() = %d; want %d", b.Family(), family)
	}
	if want := text(links); b.Say() != want {
		t.Errorf("Say() = %q; want %q", b.Say(), want)
	}
	checkHas(t, b, links)
}

func checkHas(t *testing.T, b blame.Blame, links []linkOf) {
	t.Helper()
	has := map[api.Errno]bool{}
	for _, l := range links {
		has[l.code] = true
	}
	for _, k := range known() {
		if b.Has(k.code) != has[k.code] {
			t.Errorf("Has(%d) = %t in %v", k.code, b.Has(k.code), links)
		}
	}
	for _, code := range unknown() {
		if b.Has(code) {
			t.Errorf("Has(%d) = true in %v; the code is unknown", code, links)
		}
	}
}

func TestExample(t *testing.T) {
	b := blame.Under(api.ErrForm, 9, blame.New(api.ErrShort, 4))
	code, at := b.Root()
	if b.Code() != api.ErrForm || b.At() != 9 || code != api.ErrShort || at != 4 || b.Deep() != 2 || b.Family() != 1 {
		t.Error(b.Code(), b.At(), code, at, b.Deep(), b.Family())
	}
	if b.Say() != "form at 9: short at 4" {
		t.Error(b.Say())
	}
}

func TestZeroBlame(t *testing.T) {
	check(t, blame.Blame{})
	var b blame.Blame
	check(t, b)
}

func TestNew(t *testing.T) {
	for _, k := range known() {
		for _, at := range positions() {
			b := blame.New(k.code, at)
			if k.code == api.OK {
				check(t, b)
				continue
			}
			check(t, b, linkOf{k.code, at})
		}
	}
}

func TestNewUnknown(t *testing.T) {
	for _, code := range unknown() {
		for _, at := range positions() {
			check(t, blame.New(code, at), linkOf{api.ErrArg, at})
		}
	}
}

// Each code is wrapped in each other one: the outer one never changes the family, the root or whether the inner one is there.
func TestUnder(t *testing.T) {
	for _, outer := range known()[1:] {
		for _, inner := range known()[1:] {
			b := blame.Under(outer.code, -3, blame.New(inner.code, 70))
			check(t, b, linkOf{outer.code, -3}, linkOf{inner.code, 70})
		}
	}
	for i, at := range positions() {
		other := positions()[len(positions())-1-i]
		b := blame.Under(api.ErrOrder, at, blame.New(api.ErrOver, other))
		check(t, b, linkOf{api.ErrOrder, at}, linkOf{api.ErrOver, other})
	}
}

func TestUnderUnknown(t *testing.T) {
	for _, code := range unknown() {
		b := blame.Under(code, 5, blame.New(api.ErrOver, 6))
		check(t, b, linkOf{api.ErrArg, 5}, linkOf{api.ErrOver, 6})
		b = blame.Under(api.ErrOver, 5, blame.New(code, 6))
		check(t, b, linkOf{api.ErrOver, 5}, linkOf{api.ErrArg, 6})
	}
}

func TestUnderOK(t *testing.T) {
	check(t, blame.Under(api.OK, 5, blame.Blame{}))
	check(t, blame.Under(api.OK, 5, blame.New(api.OK, 6)))
	one := blame.New(api.ErrFull, 6)
	two := blame.Under(api.ErrPage, -1, one)
	for _, at := range positions() {
		b := blame.Under(api.OK, at, one)
		check(t, b, linkOf{api.ErrFull, 6})
		if b != one {
			t.Error("Under with OK has changed a blame of one link")
		}
		b = blame.Under(api.OK, at, two)
		check(t, b, linkOf{api.ErrPage, -1}, linkOf{api.ErrFull, 6})
		if b != two {
			t.Error("Under with OK has changed a blame of two links")
		}
	}
}

func TestUnderZeroBlame(t *testing.T) {
	for _, k := range known()[1:] {
		for _, at := range positions() {
			b := blame.Under(k.code, at, blame.Blame{})
			check(t, b, linkOf{k.code, at})
			if b != blame.New(k.code, at) {
				t.Errorf("Under(%d, %d, zero) is not what New returns", k.code, at)
			}
		}
	}
	for _, code := range unknown() {
		check(t, blame.Under(code, 7, blame.Blame{}), linkOf{api.ErrArg, 7})
	}
}

// A blame stays as it was when it is wrapped, also when it is wrapped twice.
func TestCauseStays(t *testing.T) {
	cause := blame.Under(api.ErrForm, 9, blame.New(api.ErrShort, 4))
	left := blame.Under(api.ErrSum, 1, cause)
	right := blame.Under(api.ErrChar, 2, cause)
	check(t, cause, linkOf{api.ErrForm, 9}, linkOf{api.ErrShort, 4})
	check(t, left, linkOf{api.ErrSum, 1}, linkOf{api.ErrForm, 9}, linkOf{api.ErrShort, 4})
	check(t, right, linkOf{api.ErrChar, 2}, linkOf{api.ErrForm, 9}, linkOf{api.ErrShort, 4})
}

// A link with the same code and position as its cause is a link of its own.
func TestEqualLinks(t *testing.T) {
	same := linkOf{api.ErrSize, 3}
	b := blame.New(same.code, same.at)
	b = blame.Under(same.code, same.at, b)
	b = blame.Under(same.code, same.at, b)
	check(t, b, same, same, same)
}

func TestNameAndKnown(t *testing.T) {
	if len(known()) != 28 {
		t.Fatalf("%d known codes; want 28", len(known()))
	}
	for i, k := range known() {
		if int(k.code) != i {
			t.Errorf("code %d stands at %d", k.code, i)
		}
		if !blame.Known(k.code) || blame.Name(k.code) != k.name {
			t.Errorf("code %d: %t, %q; want %q", k.code, blame.Known(k.code), blame.Name(k.code), k.name)
		}
	}
	for _, code := range unknown() {
		if blame.Known(code) || blame.Name(code) != "?" {
			t.Errorf("code %d: %t, %q; want ?", code, blame.Known(code), blame.Name(code))
		}
	}
}

func TestSay(t *testing.T) {
	cases := []struct {
		b    blame.Blame
		want string
	}{
		{blame.Blame{}, ""},
		{blame.New(api.OK, 3), ""},
		{blame.New(api.ErrMore, 21), "more at 21"},
		{blame.New(api.ErrNil, 0), "nil at 0"},
		{blame.New(api.ErrDist, -1), "distance at -1"},
		{blame.New(99, 3), "argument at 3"},
		{blame.New(api.ErrBig, math.MaxInt), "big at 9223372036854775807"},
		{blame.New(api.ErrBig, math.MinInt), "big at -9223372036854775808"},
		{blame.Under(api.ErrForm, 4, blame.New(api.ErrOpen, 0)), "form at 4: open at 0"},
		{blame.Under(-5, -6, blame.New(api.ErrMatch, 1000000)), "argument at -6: match at 1000000"},
		{blame.Under(api.ErrDiffer, 1, blame.Under(api.ErrSum, 0, blame.New(api.ErrCode, 40))), "differ at 1: sum at 0: code at 40"},
	}
	for _, c := range cases {
		if got := c.b.Say(); got != c.want {
			t.Errorf("Say() = %q; want %q", got, c.want)
		}
	}
}

// A blame is wrapped in each of the codes in turn, unknown ones and OK among them, and checked whole after each step.
func TestWrappedStepByStep(t *testing.T) {
	for _, root := range known()[1:] {
		b := blame.New(root.code, -8)
		links := []linkOf{{root.code, -8}}
		for step, k := range known() {
			b = blame.Under(k.code, step, b)
			if k.code != api.OK {
				links = append([]linkOf{{k.code, step}}, links...)
			}
			check(t, b, links...)
		}
		b = blame.Under(28, math.MinInt, b)
		check(t, b, append([]linkOf{{api.ErrArg, math.MinInt}}, links...)...)
	}
}

func TestWrappedOften(t *testing.T) {
	const often = 1 << 16
	codes := []api.Errno{api.ErrForm, api.ErrOver, api.ErrChar, api.ErrBig, api.ErrNone}
	for _, root := range []api.Errno{api.ErrShort, api.ErrDist, api.ErrMatch, api.ErrFull, api.ErrNil} {
		b := blame.New(root, math.MinInt)
		links := make([]linkOf, often)
		links[often-1] = linkOf{root, math.MinInt}
		for i := 1; i < often; i++ {
			l := linkOf{codes[i%len(codes)], i}
			links[often-1-i] = l
			b = blame.Under(l.code, l.at, b)
			if b.Code() != l.code || b.At() != l.at {
				t.Fatalf("after %d times: Code and At = %d, %d; want %v", i, b.Code(), b.At(), l)
			}
		}
		check(t, b, links...)
	}
}

func FuzzChain(f *testing.F) {
	f.Add([]byte{4, 9, 2, 4}, 1)
	f.Add([]byte{0, 0, 200, 7, 27, 27}, -1)
	f.Fuzz(func(t *testing.T, steps []byte, scale int) {
		var b blame.Blame
		var links []linkOf
		for i := 0; i+1 < len(steps); i += 2 {
			// Signed bytes reach unknown codes on both sides.
			code, at := api.Errno(int8(steps[i])), int(steps[i+1])*scale
			b = blame.Under(code, at, b)
			if code == api.OK {
				continue
			}
			if code < 0 || code > 27 {
				code = api.ErrArg
			}
			links = append([]linkOf{{code, at}}, links...)
		}
		check(t, b, links...)
	})
}
