package gzip_test

import (
	library "compress/gzip"
	"io"
	"math/rand"
	"strconv"
	"strings"
	"testing"

	"collimator/api"
	"collimator/gzip"
	"collimator/pack"
)

// P13.3: what was built is read back, with a start for each block.
func TestRoundTrip(t *testing.T) {
	for seed := range int64(1500) {
		source := rand.New(rand.NewSource(seed))
		h := someHead(source)
		l, before := someParts(source)
		s := build(t, h, l...)
		checkModel(t, s)
		x, b := gzip.Parse(s)
		if b.Say() != "" || x.Head != h || x.Text != before[len(l)] || x.From != 8*len(head(t, h)) || len(x.Starts) != len(l) {
			t.Fatalf("seed %d: %q, %+v", seed, b.Say(), x)
		}
		for i, start := range x.Starts {
			if start.Out != len(before[i]) {
				t.Fatalf("seed %d: the block %d starts behind %d bytes instead of %d", seed, i, start.Out, len(before[i]))
			}
		}
	}
}

// P13.3: long texts, in pieces of all sizes.
func TestLongRoundTrip(t *testing.T) {
	for seed := range int64(10) {
		source := rand.New(rand.NewSource(seed))
		text := strings.Repeat(someText(source, 3000)+"x", 100)
		for _, n := range []int{0, 1 + source.Intn(65535), 5000} {
			l := pack.Split(text, n)
			x, b := gzip.Parse(build(t, api.Head{}, l...))
			if b.Say() != "" || x.Text != text || len(x.Starts) != len(l) {
				t.Fatalf("seed %d, pieces of %d bytes: %q, %d bytes", seed, n, b.Say(), len(x.Text))
			}
		}
	}
}

// P13.3: an archive from which any bytes are removed at the end is not an archive, nor one to which bytes are appended.
func TestCutAndAppended(t *testing.T) {
	for seed := range int64(20) {
		source := rand.New(rand.NewSource(seed))
		l, _ := someParts(source)
		s := build(t, someHead(source), l...)
		for n := range s {
			checkModel(t, s[:n])
			if x, b := gzip.Parse(s[:n]); b.Say() == "" || !isSame(x, gzip.Info{}) {
				t.Fatalf("seed %d: the first %d of %d bytes: %q, %+v", seed, n, len(s), b.Say(), x)
			}
		}
		for _, more := range []string{"\x00", "\xff", someText(source, 9) + "a", s} {
			checkError(t, s+more, "more at "+strconv.Itoa(len(s)))
		}
	}
}

// damaged has some bytes that are other ones, that are missing, or that are there twice.
func damaged(source *rand.Rand, s string) string {
	b := []byte(s)
	for range 1 + source.Intn(3) {
		at := source.Intn(len(b))
		switch source.Intn(4) {
		case 0:
			b[at] ^= 1 << source.Intn(8)
		case 1:
			b[at] = byte(source.Intn(256))
		case 2:
			b = append(b[:at], b[at+1:]...)
		case 3:
			b = append(b[:at+1], b[at:]...)
		}
	}
	return string(b)
}

// P13.1: archives that are damaged in all ways, against the model; each kind of error occurs.
func TestDamaged(t *testing.T) {
	found := map[string]int{}
	for seed := range int64(5000) {
		source := rand.New(rand.NewSource(seed))
		l, _ := someParts(source)
		s := damaged(source, build(t, someHead(source), l...))
		checkModel(t, s)
		_, say := modelParse(s)
		name, _, _ := strings.Cut(say, " ")
		found[name]++
	}
	for _, name := range []string{"", "magic", "flags", "short", "form", "sum", "size", "more"} {
		if found[name] == 0 {
			t.Errorf("nothing was %q: %v", name, found)
		}
	}
}

// libraryReads returns what Go's own library decompresses, if s is one member and nothing else.
func libraryReads(s string) (string, bool) {
	source := strings.NewReader(s)
	r, err := library.NewReader(source)
	if err != nil {
		return "", false
	}
	r.Multistream(false)
	text, err := io.ReadAll(r)
	return string(text), err == nil && source.Len() == 0
}

// W3: what is an archive, is one for Go's own library, with the same text. (The library does not refuse flags that are reserved.)
func TestAgainstTheLibrary(t *testing.T) {
	archives := 0
	for seed := range int64(4000) {
		source := rand.New(rand.NewSource(seed))
		l, _ := someParts(source)
		s := build(t, someHead(source), l...)
		if seed%4 > 0 {
			s = damaged(source, s)
		}
		x, b := gzip.Parse(s)
		text, ok := libraryReads(s)
		switch {
		case b.Code() == api.ErrFlags:
		case ok != (b.Code() == api.OK) || text != x.Text && ok:
			t.Fatalf("seed %d: %q with %d bytes; the library: %t, %d bytes", seed, b.Say(), len(x.Text), ok, len(text))
		case ok:
			archives++
		}
	}
	if archives < 1000 {
		t.Errorf("only %d archives", archives)
	}
}

// W3: what Go's own library writes is an archive.
func TestWrittenByTheLibrary(t *testing.T) {
	for seed := range int64(300) {
		source := rand.New(rand.NewSource(seed))
		text := strings.Repeat(someText(source, 5000), 1+source.Intn(30))
		var out strings.Builder
		w, err := library.NewWriterLevel(&out, source.Intn(12)-2)
		if err != nil {
			t.Fatal(err)
		}
		w.Name, w.Comment, w.OS = "a name", "a comment", byte(source.Intn(256))
		for at := 0; at < len(text); {
			n := min(1+source.Intn(50000), len(text)-at)
			io.WriteString(w, text[at:at+n])
			if at += n; source.Intn(3) == 0 {
				w.Flush()
			}
		}
		if err := w.Close(); err != nil {
			t.Fatal(err)
		}
		x, b := gzip.Parse(out.String())
		if b.Say() != "" || x.Text != text || x.Head.Name != "a name" || x.Head.Note != "a comment" || x.Head.Flags != 24 || x.Head.Os != int(w.OS) {
			t.Fatalf("seed %d: %q, %d bytes of %d, %+v", seed, b.Say(), len(x.Text), len(text), x.Head)
		}
	}
}

func FuzzParse(f *testing.F) {
	f.Add(start+bits("1"+fixedA)+tail("a"), "")
	f.Add(start+"\x00\x02\x00\xfd\xffab\x01\x00\x00\xff\xff", "ab")
	f.Add(start+"\x07", "x")
	f.Add("", "")
	f.Fuzz(func(t *testing.T, s, text string) {
		checkModel(t, s)
		// With a header and with numbers that fit, more of the blocks are read.
		checkModel(t, start+s)
		checkModel(t, start+s+tail(text))
	})
}

func FuzzBuild(f *testing.F) {
	f.Add("a", 1, 0, 255, 8, "n", true)
	f.Add("aaaaaaaaaaaa", 5, -1, 1<<32, 28, "\x00", false)
	f.Fuzz(func(t *testing.T, text string, piece, time, os, flags int, field string, sum bool) {
		if len(text) > 1<<16 {
			return
		}
		h := api.Head{Time: time, Os: os, Flags: flags, Sum: sum, Name: field}
		l := pack.Split(text, piece)
		s, e := gzip.Build(h, l)
		if e != api.OK {
			checkNotBuilt(t, api.ErrForm, h, l...)
			return
		}
		checkModel(t, s)
		if x, b := gzip.Parse(s); b.Say() != "" || x.Head != h || x.Text != text || len(x.Starts) != len(l) {
			t.Fatalf("%q, %+v", b.Say(), x)
		}
	})
}
