package gzip_test

import (
	"encoding/binary"
	"hash/crc32"
	"slices"
	"strings"
	"testing"

	"collimator/api"
	"collimator/gzip"
	"collimator/inflate"
	"collimator/pack"
)

// The chapter's example.
func TestExample(t *testing.T) {
	s := build(t, api.Head{Os: 255}, fixed("a"))
	if s != start+"\x4b\x04\x00"+"\x43\xbe\xb7\xe8\x01\x00\x00\x00" {
		t.Fatalf("Build = %q", s)
	}
	checkParse(t, s, gzip.Info{Head: api.Head{Os: 255}, From: 80, End: 98, Starts: []inflate.Start{{Bit: 80}}, Text: "a"})
}

// P13.2: archives that are written out. The checksum of 123456789 is the one that is known as CRC-32's check value.
func TestBuild(t *testing.T) {
	for _, c := range []struct {
		want string
		h    api.Head
		l    []pack.Part
	}{
		{start + "\x03\x00" + "\x00\x00\x00\x00" + "\x00\x00\x00\x00", api.Head{Os: 255}, []pack.Part{fixed("")}},
		{start + "\x01\x00\x00\xff\xff" + "\x00\x00\x00\x00" + "\x00\x00\x00\x00", api.Head{Os: 255}, []pack.Part{stored("")}},
		{start + "\x01\x09\x00\xf6\xff123456789" + "\x26\x39\xf4\xcb" + "\x09\x00\x00\x00", api.Head{Os: 255}, []pack.Part{stored("123456789")}},
		{
			"\x1f\x8b\x08\x08\x01\x00\x00\x00\x02\x03n\x00" + "\x00\x04\x00\xfb\xff1234" + "\x01\x05\x00\xfa\xff56789" + "\x26\x39\xf4\xcb" + "\x09\x00\x00\x00",
			api.Head{Time: 1, Level: 2, Os: 3, Flags: 8, Name: "n"},
			[]pack.Part{stored("1234"), stored("56789")},
		},
	} {
		if s := build(t, c.h, c.l...); s != c.want {
			t.Errorf("Build = %q; want %q", s, c.want)
		}
	}
}

// P13.2: the header, the blocks, and the numbers of the text, one behind the other.
func TestBuildParts(t *testing.T) {
	l := []pack.Part{stored("abc"), fixed("", repeat(258, 3), repeat(258, 99)), stored(""), dynamic("xyz", repeat(10, 4)), fixed("")}
	blocks, e := pack.Encode(l)
	if e != api.OK {
		t.Fatal(e)
	}
	text := strings.Repeat("abc", 1+86+86) + "xyz" + "cxyzcxyzcx"
	for _, h := range heads() {
		if s := build(t, h, l...); s != head(t, h)+blocks+tail(text) {
			t.Errorf("Build(%+v) = %q", h, s)
		}
	}
}

// P13.2: the checksum and the length are those of the whole text, however it is divided.
func TestNumbersOfDividedText(t *testing.T) {
	text := strings.Repeat("123456789", 40)
	sum := crc32.ChecksumIEEE([]byte(text))
	for _, n := range []int{1, 2, 7, 100, 255, 256, 359, 360} {
		s := build(t, api.Head{}, pack.Split(text, n)...)
		last := []byte(s[len(s)-8:])
		if binary.LittleEndian.Uint32(last) != sum || binary.LittleEndian.Uint32(last[4:]) != 360 {
			t.Errorf("in pieces of %d bytes: % x", n, last)
		}
	}
	// A length of which each of the lower bytes is another one.
	s := build(t, api.Head{}, pack.Split(strings.Repeat("\x00", 0x30201), 0)...)
	if got := s[len(s)-4:]; got != "\x01\x02\x03\x00" {
		t.Errorf("the length is % x", got)
	}
}

// badParts are parts that can't be written, with the errors of pack.Encode.
func badParts() map[api.Errno][][]pack.Part {
	unheaded := dynamic("a")
	unheaded.Lits = nil
	uncoded := dynamic("a", repeat(3, 1))
	uncoded.Dists = []int{0}
	endless, over, under := dynamic("a"), dynamic("a"), dynamic("a")
	endless.Lits[256] = 0
	over.Lits[9] = 7
	under.Dists = []int{2}
	many := slices.Repeat([]pack.Part{stored(strings.Repeat("z", 1<<15))}, 1<<9)
	return map[api.Errno][][]pack.Part{
		api.ErrEmpty: {nil, {}},
		api.ErrArg: {
			{{Kind: 3}}, {{Kind: -1}}, {stored("a"), {Kind: 3}},
			{fixed("a", repeat(2, 1))}, {fixed("a", repeat(3, 0))}, {stored(strings.Repeat("a", 65536))},
			{unheaded}, {stored("a"), unheaded}, {uncoded},
		},
		api.ErrDist:  {{fixed("a", repeat(3, 2))}, {stored("ab"), fixed("", repeat(3, 3))}, {endless, fixed("", repeat(3, 9))}},
		api.ErrBig:   {append(many, fixed("a"))},
		api.ErrNone:  {{endless}, {fixed("a"), endless}, {endless, over}},
		api.ErrOver:  {{over}, {over, endless}},
		api.ErrUnder: {{under}, {stored("a"), under, over}},
	}
}

// badHeads are headers that are not valid.
func badHeads() []api.Head {
	return []api.Head{
		{Time: -1}, {Time: 1 << 32}, {Level: 256}, {Level: -1}, {Os: 256}, {Os: -1},
		{Flags: 1}, {Flags: 2}, {Flags: 32}, {Flags: -4},
		{Extra: "x"}, {Name: "n"}, {Note: "c"},
		{Flags: 4, Extra: strings.Repeat("x", 65536)}, {Flags: 8, Name: "a\x00"}, {Flags: 16, Note: "\x00"},
	}
}

// P13.2: the errors of the header, also if there is an error of the parts as well.
func TestBuildBadHeads(t *testing.T) {
	for _, h := range badHeads() {
		checkNotBuilt(t, api.ErrForm, h, fixed("a"))
		checkNotBuilt(t, api.ErrForm, h, stored("a"), dynamic("b"))
		checkNotBuilt(t, api.ErrForm, h)
		checkNotBuilt(t, api.ErrForm, h, pack.Part{Kind: 3})
		checkNotBuilt(t, api.ErrForm, h, fixed("", repeat(3, 1)))
	}
	for _, lists := range badParts() {
		for _, l := range lists {
			checkNotBuilt(t, api.ErrForm, api.Head{Os: -1}, l...)
		}
	}
}

// P13.2: the errors of the parts.
func TestBuildBadParts(t *testing.T) {
	for e, lists := range badParts() {
		for _, l := range lists {
			for _, h := range []api.Head{{}, heads()[len(heads())-1]} {
				checkNotBuilt(t, e, h, l...)
			}
		}
	}
}

// R4: what is passed is neither changed nor appended to.
func TestPartsAreUnchanged(t *testing.T) {
	ops := fixed("abcdef").Ops
	codes := append(dynamic("").Lits, 7, 7)
	l := []pack.Part{stored("ab"), {Kind: api.Fixed, Ops: ops[:3]}, {Kind: api.Dynamic, Ops: ops[:2], Lits: codes[:286], Dists: dynamic("").Dists}, {Kind: 9}}
	if s := build(t, api.Head{}, l[:3]...); s[len(s)-8:] != tail("ab"+"abc"+"ab") {
		t.Errorf("Build = %q", s)
	}
	if !slices.Equal(ops, fixed("abcdef").Ops) || !slices.Equal(codes, append(dynamic("").Lits, 7, 7)) || l[3].Kind != 9 || l[0].Text != "ab" || len(l[1].Ops) != 3 {
		t.Error("the parts were changed")
	}
}
