package gzhead_test

import (
	"math"
	"math/rand"
	"strconv"
	"strings"
	"testing"

	"collimator/api"
	"collimator/gzhead"
)

// start is what the smallest header begins with; three bytes tell its format, one its flags, and the others are Time, Level and Os.
const start = "\x1f\x8b\x08\x00\x00\x00\x00\x00\x00\xff"

// flagged is the start with another fourth byte.
func flagged(flags byte) string {
	return start[:3] + string([]byte{flags}) + start[4:]
}

// modelSum is the CRC-32, computed bit by bit, modulo 65536, as two bytes.
func modelSum(s string) string {
	state := uint32(0xffffffff)
	for i := range len(s) {
		state ^= uint32(s[i])
		for range 8 {
			if state&1 == 1 {
				state = state/2 ^ 0xedb88320
			} else {
				state /= 2
			}
		}
	}
	return string([]byte{byte(^state), byte(^state >> 8)})
}

// modelRight goes through the numbers and bytes that a header may have.
func modelRight(h api.Head) bool {
	switch h.Flags {
	case 0, 4, 8, 4 + 8, 16, 4 + 16, 8 + 16, 4 + 8 + 16:
	default:
		return false
	}
	has := modelHas(h.Flags)
	return 0 <= h.Time && h.Time <= 4294967295 &&
		0 <= h.Level && h.Level <= 255 && 0 <= h.Os && h.Os <= 255 &&
		len(h.Extra) <= 65535 &&
		!strings.Contains(h.Name, "\x00") && !strings.Contains(h.Note, "\x00") &&
		(has[4] || h.Extra == "") && (has[8] || h.Name == "") && (has[16] || h.Note == "")
}

// modelHas tells which of the numbers 1, 2, 4, 8 and 16 a sum of them contains.
func modelHas(sum int) map[int]bool {
	has := map[int]bool{}
	for _, n := range []int{16, 8, 4, 2, 1} {
		if sum >= n {
			has[n] = true
			sum -= n
		}
	}
	return has
}

// modelBuild is the encoding of a valid header.
func modelBuild(h api.Head) string {
	has := modelHas(h.Flags)
	flags := h.Flags
	if h.Text {
		flags++
	}
	if h.Sum {
		flags += 2
	}
	b := []byte{0x1f, 0x8b, 8, byte(flags), byte(h.Time), byte(h.Time >> 8), byte(h.Time >> 16), byte(h.Time >> 24), byte(h.Level), byte(h.Os)}
	if has[4] {
		b = append(b, byte(len(h.Extra)), byte(len(h.Extra)>>8))
		b = append(b, h.Extra...)
	}
	if has[8] {
		b = append(append(b, h.Name...), 0)
	}
	if has[16] {
		b = append(append(b, h.Note...), 0)
	}
	if h.Sum {
		b = append(b, modelSum(string(b))...)
	}
	return string(b)
}

// modelParse takes the bytes of s one after the other; it ends by a panic with the first error.
func modelParse(s string, at int) (h api.Head, end int, e api.Errno) {
	defer func() {
		if x := recover(); x != nil {
			h, end, e = api.Head{}, 0, x.(api.Errno)
		}
	}()
	mustBe(at >= 0, api.ErrArg)
	mustBe(at < len(s) && len(s[at:]) >= 10, api.ErrShort)
	rest := s[at:]
	take := func(n int) string {
		mustBe(n <= len(rest), api.ErrShort)
		taken := rest[:n]
		rest = rest[n:]
		return taken
	}
	number := func(n int) int {
		v := 0
		for i, b := range []byte(take(n)) {
			v += int(b) * int(math.Pow(256, float64(i)))
		}
		return v
	}
	zeroEnded := func() string {
		text := ""
		for b := take(1); b != "\x00"; b = take(1) {
			text += b
		}
		return text
	}
	mustBe(take(3) == "\x1f\x8b\x08", api.ErrMagic)
	flags := number(1)
	mustBe(flags < 32, api.ErrFlags)
	has := modelHas(flags)
	h = api.Head{Text: has[1], Sum: has[2], Flags: flags / 4 * 4, Time: number(4), Level: number(1), Os: number(1)}
	if has[4] {
		h.Extra = take(number(2))
	}
	if has[8] {
		h.Name = zeroEnded()
	}
	if has[16] {
		h.Note = zeroEnded()
	}
	if has[2] {
		body := s[at : len(s)-len(rest)]
		mustBe(take(2) == modelSum(body), api.ErrSum)
	}
	return h, len(s) - len(rest), api.OK
}

func mustBe(ok bool, e api.Errno) {
	if !ok {
		panic(e)
	}
}

// brief writes bytes out, but for the middle of many.
func brief(s string) string {
	if len(s) <= 80 {
		return strconv.Quote(s)
	}
	return strconv.Quote(s[:40]) + ".." + strconv.Quote(s[len(s)-20:]) + " of " + strconv.Itoa(len(s))
}

// briefHead writes a header out.
func briefHead(h api.Head) string {
	return "{Time " + strconv.Itoa(h.Time) + ", Level " + strconv.Itoa(h.Level) + ", Os " + strconv.Itoa(h.Os) +
		", Flags " + strconv.Itoa(h.Flags) + ", Text " + strconv.FormatBool(h.Text) + ", Sum " + strconv.FormatBool(h.Sum) +
		", Extra " + brief(h.Extra) + ", Name " + brief(h.Name) + ", Note " + brief(h.Note) + "}"
}

// checkValid expects that a header is valid, has this encoding, and is what the encoding is read as.
func checkValid(t *testing.T, h api.Head, want string) {
	t.Helper()
	if !gzhead.Right(h) {
		t.Errorf("Right(%s) is false", briefHead(h))
	}
	if s, e := gzhead.Build(h); s != want || e != api.OK {
		t.Errorf("Build(%s) = %s, %d; want %s", briefHead(h), brief(s), e, brief(want))
	}
	checkParse(t, want, 0, h, len(want), api.OK)
}

func checkInvalid(t *testing.T, h api.Head) {
	t.Helper()
	if gzhead.Right(h) {
		t.Errorf("Right(%s) is true", briefHead(h))
	}
	if s, e := gzhead.Build(h); s != "" || e != api.ErrForm {
		t.Errorf("Build(%s) = %s, %d; want ErrForm", briefHead(h), brief(s), e)
	}
}

func checkParse(t *testing.T, s string, at int, want api.Head, wantEnd int, wantError api.Errno) {
	t.Helper()
	h, end, e := gzhead.Parse(s, at)
	if h != want || end != wantEnd || e != wantError {
		t.Errorf("Parse(%s, %d) = %s, %d, %d; want %s, %d, %d", brief(s), at, briefHead(h), end, e, briefHead(want), wantEnd, wantError)
	}
}

// checkError expects an error, and the zero value and 0 with it.
func checkError(t *testing.T, s string, at int, want api.Errno) {
	t.Helper()
	checkParse(t, s, at, api.Head{}, 0, want)
}

// checkModel expects what the model reads.
func checkModel(t *testing.T, s string, at int) {
	t.Helper()
	h, end, e := modelParse(s, at)
	checkParse(t, s, at, h, end, e)
}

// someBytes are bytes of few or of many kinds, among them 0 if that is allowed.
func someBytes(source *rand.Rand, most int, zero bool) string {
	b := make([]byte, source.Intn(most+1))
	kinds := []int{2, 4, 256}[source.Intn(3)]
	for i := range b {
		b[i] = byte(source.Intn(kinds))
		if b[i] == 0 && !zero {
			b[i] = 1
		}
	}
	return string(b)
}

// someHead is a valid header.
func someHead(source *rand.Rand) api.Head {
	h := api.Head{
		Time:  source.Intn(1 << (1 + source.Intn(32))),
		Level: source.Intn(256),
		Os:    source.Intn(256),
		Text:  source.Intn(2) == 0,
		Sum:   source.Intn(2) == 0,
		Flags: 4 * source.Intn(8),
	}
	has := modelHas(h.Flags)
	most := []int{3, 30, 600}[source.Intn(3)]
	if has[4] {
		h.Extra = someBytes(source, most, true)
	}
	if has[8] {
		h.Name = someBytes(source, most, false)
	}
	if has[16] {
		h.Note = someBytes(source, most, false)
	}
	return h
}
