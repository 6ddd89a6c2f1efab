package charset_test

import (
	"fmt"
	"math/rand"
	"strings"
	"testing"

	"collimator/api"
	"collimator/charset"
)

// The model of a set says of each of the 256 bytes whether it is in it.
type members [256]bool

func modelOf(s string) members {
	var m members
	for _, c := range []byte(s) {
		m[c] = true
	}
	return m
}

// where is the model of the bytes for which a condition holds.
func where(is func(c int) bool) members {
	var m members
	for c := range m {
		m[c] = is(c)
	}
	return m
}

func (m members) not() members {
	return where(func(c int) bool { return !m[c] })
}

func (m members) or(n members) members {
	return where(func(c int) bool { return m[c] || n[c] })
}

func (m members) and(n members) members {
	return where(func(c int) bool { return m[c] && n[c] })
}

func (m members) text() string {
	var s strings.Builder
	for c, in := range m {
		if in {
			s.WriteByte(byte(c))
		}
	}
	return s.String()
}

// set lays the bits one by one: bit c modulo 64 of the word c / 64.
func (m members) set() api.Set {
	var a api.Set
	for c, in := range m {
		if in {
			a[c/64] += 1 << (c % 64)
		}
	}
	return a
}

// printed are the notations of the bytes from 33 to 126, in their order.
const printed = `! \" # $ % & ' \( \) \* \+ , \- \. \/ ` +
	`0 1 2 3 4 5 6 7 8 9 : ; < = > \? @ ` +
	`A B C D E F G H I J K L M N O P Q R S T U V W X Y Z \[ \\ \] \^ _ ` + "` " +
	`a b c d e f g h i j k l m n o p q r s t u v w x y z \{ \| \} ~`

// notations are the notations of the 256 bytes.
var notations = func() (list [256]string) {
	for c := range list {
		list[c] = fmt.Sprintf(`\x%02x`, c)
	}
	list['\t'], list['\n'], list[' '] = `\t`, `\n`, `\s`
	copy(list[33:127], strings.Fields(printed))
	return list
}()

// modelByte is the notation of a byte.
func modelByte(c int) string {
	return notations[c]
}

// show marks of each byte whether both of its neighbours are listed: inside a run of three or more, only such bytes are left out, and the first one of them is replaced by a minus sign.
func (m members) show() string {
	if len(m.text()) == 1 {
		return modelByte(int(m.text()[0]))
	}
	before, listed := "[", m
	if len(m.text()) > 128 {
		before, listed = "[^", m.not()
	}
	in := func(c int) bool { return c >= 0 && c <= 255 && listed[c] }
	inner := func(c int) bool { return in(c-1) && in(c) && in(c+1) }
	var s strings.Builder
	for c := range 256 {
		switch {
		case inner(c) && !inner(c-1):
			s.WriteString("-")
		case in(c) && !inner(c):
			s.WriteString(modelByte(c))
		}
	}
	return before + s.String() + "]"
}

// checkSet holds a set against its model, bit for bit and by each function that tells of one set.
func checkSet(t *testing.T, what string, got api.Set, want members) {
	t.Helper()
	if got != want.set() {
		t.Errorf("%s is %x; want %x", what, got, want.set())
	}
	for c := range 256 {
		if charset.Has(got, byte(c)) != want[c] {
			t.Errorf("%s: Has(%d) is %t", what, c, !want[c])
		}
	}
	if n := charset.Count(got); n != len(want.text()) {
		t.Errorf("%s has %d bytes; want %d", what, n, len(want.text()))
	}
	if s := charset.Bytes(got); s != want.text() {
		t.Errorf("%s has the bytes %q; want %q", what, s, want.text())
	}
	checkShow(t, what, got, want.show())
}

func checkShow(t *testing.T, what string, a api.Set, want string) {
	t.Helper()
	if got := charset.Show(a); got != want {
		t.Errorf("%s is shown as %s; want %s", what, got, want)
	}
}

// edges are the first and the last byte of each word.
func edges() string {
	return "\x00\x3f\x40\x7f\x80\xbf\xc0\xff"
}

// every is the 256 bytes in ascending order.
func every() string {
	return where(func(int) bool { return true }).text()
}

// someModel has each byte with a probability that is itself a random one, or runs of random lengths.
func someModel(rng *rand.Rand) members {
	if rng.Intn(2) == 0 {
		share := rng.Float64()
		return where(func(int) bool { return rng.Float64() < share })
	}
	left, in := 0, rng.Intn(2) == 0
	return where(func(int) bool {
		if left == 0 {
			left, in = 1+rng.Intn(1<<rng.Intn(8)), !in
		}
		left--
		return in
	})
}
