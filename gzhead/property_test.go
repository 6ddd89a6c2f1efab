package gzhead_test

import (
	"compress/gzip"
	"math/rand"
	"strings"
	"testing"

	"collimator/api"
	"collimator/crc"
	"collimator/gzhead"
)

// P12.3: what Build returns is read as the same header, whatever stands ahead of it and behind it.
func TestBuiltHeadersAreRead(t *testing.T) {
	source := rand.New(rand.NewSource(1))
	for range 20000 {
		h := someHead(source)
		s, e := gzhead.Build(h)
		if e != api.OK || !gzhead.Right(h) {
			t.Fatalf("Build(%s): %d", briefHead(h), e)
		}
		if s != modelBuild(h) {
			t.Fatalf("Build(%s) = %s", briefHead(h), brief(s))
		}
		before, after := someBytes(source, 20, true), someBytes(source, 20, true)
		checkParse(t, before+s+after, len(before), h, len(before)+len(s), api.OK)
		checkParse(t, s+s, len(s), h, 2*len(s), api.OK)
	}
}

// P12.3: what Parse reads is built as the bytes that were read. The headers are changed in few places, so that many of them are read all the same.
func TestReadHeadersAreBuilt(t *testing.T) {
	source := rand.New(rand.NewSource(2))
	read := 0
	for range 40000 {
		h := someHead(source)
		b := []byte(modelBuild(h) + someBytes(source, 8, true))
		for range source.Intn(4) {
			b[3+source.Intn(len(b)-3)] ^= 1 << source.Intn(8)
		}
		s := string(b[:len(b)-source.Intn(3)])
		checkModel(t, s, 0)
		if checkReadIsBuilt(t, s, 0) {
			read++
		}
	}
	if read < 10000 {
		t.Errorf("only %d headers could be read", read)
	}
}

// checkReadIsBuilt expects that a header that can be read is valid and is built as the bytes that were read.
func checkReadIsBuilt(t *testing.T, s string, at int) bool {
	t.Helper()
	h, end, e := gzhead.Parse(s, at)
	if e != api.OK {
		return false
	}
	if !gzhead.Right(h) {
		t.Errorf("Parse(%s, %d) returns %s, which is not valid", brief(s), at, briefHead(h))
	}
	if built, e := gzhead.Build(h); built != s[at:end] || e != api.OK {
		t.Errorf("Parse(%s, %d) returns %s, which is built as %s, %d", brief(s), at, briefHead(h), brief(built), e)
	}
	return true
}

// Right and Build of headers that are valid or nearly so: as the model tells.
func TestNearlyValidHeaders(t *testing.T) {
	source := rand.New(rand.NewSource(3))
	valid := 0
	for range 40000 {
		h := someHead(source)
		switch source.Intn(8) {
		case 0:
			h.Time = source.Intn(1<<34) - 1<<33
		case 1:
			h.Level = source.Intn(600) - 200
		case 2:
			h.Os = source.Intn(600) - 200
		case 3:
			h.Flags = source.Intn(80) - 20
		case 4:
			h.Extra = someBytes(source, 5, true)
		case 5:
			h.Name = someBytes(source, 5, true)
		case 6:
			h.Note = someBytes(source, 5, true)
		}
		if modelRight(h) {
			valid++
			checkValid(t, h, modelBuild(h))
		} else {
			checkInvalid(t, h)
		}
	}
	if valid < 5000 || valid > 35000 {
		t.Errorf("%d of 40000 headers are valid", valid)
	}
}

// The checksum is that of package crc.
func TestSumIsOfCrc(t *testing.T) {
	source := rand.New(rand.NewSource(4))
	for range 2000 {
		h := someHead(source)
		h.Sum = true
		s, _ := gzhead.Build(h)
		n := crc.Of(s[:len(s)-2]) % 65536
		if s[len(s)-2:] != string([]byte{byte(n), byte(n >> 8)}) {
			t.Errorf("Build(%s) = %s, with the checksum %d", briefHead(h), brief(s), n)
		}
	}
}

// W3: Go's own library reads the same from the same bytes. (It takes a Name and a Note as Latin-1 and as at most 511 bytes; it does not tell the Os's and the Level's meaning.)
func TestAgainstTheLibrary(t *testing.T) {
	source := rand.New(rand.NewSource(5))
	ascii := func(most int) string {
		b := make([]byte, source.Intn(most))
		for i := range b {
			b[i] = byte(1 + source.Intn(127))
		}
		return string(b)
	}
	for range 3000 {
		h := someHead(source)
		has := modelHas(h.Flags)
		h.Name, h.Note = "", ""
		if has[8] {
			h.Name = ascii(500)
		}
		if has[16] {
			h.Note = ascii(500)
		}
		s, e := gzhead.Build(h)
		r, err := gzip.NewReader(strings.NewReader(s))
		if e != api.OK || err != nil {
			t.Fatalf("Build(%s) = %s, %d; the library: %v", briefHead(h), brief(s), e, err)
		}
		if r.Name != h.Name || r.Comment != h.Note || string(r.Extra) != h.Extra || int(r.OS) != h.Os {
			t.Errorf("the library reads %s as %+v", briefHead(h), r.Header)
		}
		if h.Time > 0 && r.ModTime.Unix() != int64(h.Time) {
			t.Errorf("the library reads the time %d as %d", h.Time, r.ModTime.Unix())
		}
	}
}

// R4: the fields that are returned are new memory, so that they do not keep the whole text: three of them are allocated, and none if they are empty.
func TestFieldsAreNewMemory(t *testing.T) {
	allocated := func(h api.Head) float64 {
		s := modelBuild(h)
		return testing.AllocsPerRun(100, func() { gzhead.Parse(s, 0) })
	}
	empty := allocated(api.Head{Flags: 28})
	fields := allocated(api.Head{Flags: 28, Extra: "extra", Name: "name", Note: "note"})
	if fields < empty+3 {
		t.Errorf("Parse of a header allocates %v times with three fields, %v times with three empty ones", fields, empty)
	}
}

// R1: long fields take no more than their bytes' time.
func TestLongFields(t *testing.T) {
	name, note := strings.Repeat("n", 1<<22), strings.Repeat("\xff", 1<<22)
	h := api.Head{Os: 255, Sum: true, Flags: 28, Extra: strings.Repeat("\x00", 65535), Name: name, Note: note}
	s, e := gzhead.Build(h)
	if e != api.OK || len(s) != 10+2+65535+2*(1<<22+1)+2 {
		t.Fatalf("Build of long fields: %d bytes, %d", len(s), e)
	}
	checkParse(t, "ab"+s+"c", 2, h, 2+len(s), api.OK)
	checkError(t, s[:len(s)-3], 0, api.ErrShort)
}

func FuzzParse(f *testing.F) {
	f.Add(modelBuild(full()), 0)
	f.Add("ab"+start, 2)
	f.Add(flagged(31)+"\x00\x00\x00\x00", 0)
	f.Add(flagged(32), 0)
	f.Add(start, -1)
	f.Fuzz(func(t *testing.T, s string, at int) {
		checkModel(t, s, at)
		checkReadIsBuilt(t, s, at)
		if len(s) < 1<<16 {
			// With the right checksum more of the headers can be read.
			checkModel(t, s+modelSum(s), 0)
		}
	})
}

func FuzzBuild(f *testing.F) {
	f.Add(0, 0, 255, 0, false, false, "", "", "")
	f.Add(1<<32, 256, -1, 28, true, true, "x", "n", "c")
	f.Fuzz(func(t *testing.T, time, level, os, flags int, text, sum bool, extra, name, note string) {
		h := api.Head{Time: time, Level: level, Os: os, Flags: flags, Text: text, Sum: sum, Extra: extra, Name: name, Note: note}
		if modelRight(h) {
			checkValid(t, h, modelBuild(h))
		} else {
			checkInvalid(t, h)
		}
	})
}
