package subset_test

import (
	"math/rand"
	"testing"

	"collimator/api"
	"collimator/subset"
)

// bytesFrom is the text of the bytes from one to another one.
func bytesFrom(from, to int) string {
	var s []byte
	for c := from; c <= to; c++ {
		s = append(s, byte(c))
	}
	return string(s)
}

func not(a api.Set) api.Set {
	for i := range a {
		a[i] = ^a[i]
	}
	return a
}

// P19.1: no edges, edges that divide nothing, and sets of each relation to one another.
func TestClasses(t *testing.T) {
	none := api.Set{}
	for _, c := range []struct {
		what     string
		sets     []api.Set
		examples string
	}{
		{"no set", nil, "\x00"},
		{"the empty set", []api.Set{none}, "\xff"},
		{"the set of all bytes", []api.Set{every()}, "a"},
		{"the empty set and that of all bytes", []api.Set{none, every(), none}, "a"},
		{"one set", []api.Set{setOf("a")}, "\x00a"},
		{"one set of several bytes", []api.Set{setOf("xaz")}, "yz"},
		{"a set with the first byte", []api.Set{setOf("\x00")}, "\x00\x01"},
		{"a set with the last byte", []api.Set{setOf("\xff")}, "\x00\xff"},
		{"a set with both", []api.Set{setOf("\xff\x00")}, "\xff\x01"},
		{"one set twice", []api.Set{setOf("ab"), setOf("ab")}, "\x00a"},
		{"a set and its complement", []api.Set{setOf("ab"), not(setOf("ab"))}, "\x00b"},
		{"a set among those that divide nothing", []api.Set{every(), setOf("ab"), none}, "\x00b"},
		{"two sets without a byte in common", []api.Set{setOf("b"), setOf("a")}, "\x00ab"},
		{"two such sets of all bytes but one", []api.Set{setOf(bytesFrom('b', 255)), setOf(bytesFrom(0, '`'))}, "\x00ab"},
		{"two sets that overlap", []api.Set{setOf("bcd"), setOf("abc")}, "\x00acd"},
		{"two sets that overlap, the order of their bytes turned", []api.Set{setOf("bcx"), setOf("abcy")}, "zycx"},
		{"a set within another one", []api.Set{setOf("abcd"), setOf("cb")}, "\x00db"},
		{"a set within another one, the inner one first", []api.Set{setOf("bcd"), setOf("abcd")}, "\x00ac"},
		{"three sets that overlap", []api.Set{setOf("abcd"), setOf("abef"), setOf("aceg")}, "\x00abcdefg"},
		{"the words of a set", []api.Set{{0, 1}, {0, 0, 1}, {0, 0, 0, 1}, {1}}, "\x00\x01\x40\x80\xc0"},
		{"the ends of the words", []api.Set{setOf("\x3f\x40\x7f\x80\xbf\xc0"), setOf("\x40\x80\xc0")}, "a\x3f\xc0"},
	} {
		checkClasses(t, c.what, ofSets(c.sets...), c.examples)
	}
}

// P19.1: a set of each byte alone, and of all the others.
func TestClassesOfBytes(t *testing.T) {
	for c := range 256 {
		one := string([]byte{byte(c)})
		want := string([]byte{0, byte(c)})
		if c == 0 {
			want = "\x00\x01"
		}
		checkClasses(t, "one byte", ofSets(setOf(one)), want)
		checkClasses(t, "all bytes but one", ofSets(not(setOf(one))), want)
		checkClasses(t, "one byte twice", ofSets(setOf(one), every(), setOf(one)), want)
		if c > 0 {
			checkClasses(t, "the bytes below one", ofSets(setOf(bytesFrom(0, c-1))), want)
			checkClasses(t, "the bytes from one on", ofSets(setOf(bytesFrom(c, 255))), want)
		}
	}
}

// P19.1: as many classes as there are bytes, and one less, by sets of one byte, by sets that contain one another, and by the bits of the bytes.
func TestMostClasses(t *testing.T) {
	var single, nested, bits []api.Set
	for c := 255; c >= 0; c-- {
		single = append(single, setOf(string([]byte{byte(c)})))
		nested = append(nested, setOf(bytesFrom(c, 255)))
	}
	for i := range 8 {
		var s []byte
		for c := range 256 {
			if c>>i&1 == 1 {
				s = append(s, byte(c))
			}
		}
		bits = append(bits, setOf(string(s)))
	}
	all := bytesFrom(0, 255)
	checkClasses(t, "sets of one byte", ofSets(single...), all)
	checkClasses(t, "255 sets of one byte", ofSets(single[1:]...), all)
	checkClasses(t, "254 sets of one byte", ofSets(single[2:]...), all[:255])
	checkClasses(t, "sets that contain one another", ofSets(nested...), all)
	checkClasses(t, "255 sets that contain one another", ofSets(nested[:255]...), all)
	checkClasses(t, "254 sets that contain one another", ofSets(nested[1:255]...), all[:255])
	checkClasses(t, "the bits of the bytes", ofSets(bits...), all)
	checkClasses(t, "all bits but the lowest", ofSets(bits[1:]...), "\x00\x02\x04"+everySecond(6))
	checkClasses(t, "all bits but the highest", ofSets(bits[:7]...), all[128:])
}

// everySecond is the even bytes from one on.
func everySecond(from int) string {
	var s []byte
	for c := from; c < 256; c += 2 {
		s = append(s, byte(c))
	}
	return string(s)
}

// P19.1: Free edges make no class; the edges of all states do, also of those that nothing leads to.
func TestClassesOfEdges(t *testing.T) {
	n := bare(4)
	checkClasses(t, "no edges", n, "a")
	n.Edges[0] = []api.Edge{free(1), free(0), free(3)}
	n.Edges[3] = []api.Edge{free(3)}
	checkClasses(t, "Free edges", n, "a")
	n.Edges[1] = []api.Edge{free(2), by("b", 2), free(2)}
	checkClasses(t, "an edge among Free ones", n, "ab")
	n.Edges[0] = append(n.Edges[0], by("b", 3))
	checkClasses(t, "the same set at another state", n, "ab")
	n.Edges[3] = append(n.Edges[3], by("ac", 0))
	checkClasses(t, "a state that edges lead to", n, "\x00ab")
	n.Edges[2] = append(n.Edges[2], by("c", 0), free(1))
	checkClasses(t, "all states", n, "\x00abc")
	n = bare(4)
	n.First = 3
	n.Edges[0] = []api.Edge{by("b", 1)}
	checkClasses(t, "a state that nothing leads to", n, "ab")
	n.Edges[2] = []api.Edge{by("a", 1)}
	checkClasses(t, "two such states", n, "\x00ab")
	n = bare(3000)
	n.Edges[2999] = []api.Edge{by("b", 0)}
	n.Edges[0] = []api.Edge{by("ab", 2999)}
	checkClasses(t, "the first and the last state", n, "\x00ab")
}

// P19.1: the classes depend on the sets only, not on their order and not on the states that have them.
func TestClassesShuffled(t *testing.T) {
	rng := rand.New(rand.NewSource(191))
	for range 500 {
		var sets []api.Set
		for range rng.Intn(12) {
			sets = append(sets, someSet(rng))
		}
		n := ofSets(sets...)
		class, count := subset.Classes(n)
		if want, wantCount := modelClasses(n); class != want || count != wantCount {
			t.Errorf("%v: %d classes %v; want %d and %v", sets, count, class, wantCount, want)
		}
		rng.Shuffle(len(sets), func(i, k int) { sets[i], sets[k] = sets[k], sets[i] })
		n = bare(5)
		for _, s := range append(sets, sets...) {
			i := rng.Intn(5)
			n.Edges[i] = append(n.Edges[i], api.Edge{To: rng.Intn(5), Set: s}, free(rng.Intn(5)))
		}
		if again, againCount := subset.Classes(n); again != class || againCount != count {
			t.Errorf("%v: %d classes %v in another order; want %d and %v", sets, againCount, again, count, class)
		}
	}
}

// someSet is a set of any bytes, of few, of all but few, or of a range.
func someSet(rng *rand.Rand) api.Set {
	var a api.Set
	switch rng.Intn(4) {
	case 0:
		return api.Set{rng.Uint64(), rng.Uint64(), rng.Uint64(), rng.Uint64()}
	case 1:
		from := rng.Intn(256)
		return setOf(bytesFrom(from, from+rng.Intn(256-from)))
	}
	for range rng.Intn(4) {
		c := rng.Intn(256)
		a[c/64] |= 1 << (c % 64)
	}
	if rng.Intn(2) == 0 {
		return not(a)
	}
	return a
}

// P19.1: many automata, against the model.
func TestClassesRandom(t *testing.T) {
	rng := rand.New(rand.NewSource(192))
	for range 3000 {
		n := someAutomaton(rng, 1+rng.Intn(1<<rng.Intn(6)))
		class, count := subset.Classes(n)
		if want, wantCount := modelClasses(n); class != want || count != wantCount {
			t.Errorf("%v: %d classes %v; want %d and %v", n, count, class, wantCount, want)
		}
	}
}
