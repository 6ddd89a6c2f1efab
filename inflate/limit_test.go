package inflate_test

import (
	"testing"

	"collimator/api"
)

// checkLong is check of a long text.
func checkLong(t *testing.T, w *writer, want outcome) {
	t.Helper()
	s := w.bits.Text()
	checkAll(t, s, w.from, w.preset, want)
	checkSteps(t, s, w.from, w.preset, want, 1<<20+7)
	checkSteps(t, s, w.from, w.preset, want, 1<<24-1, 1)
}

// almost writes blocks that leave room for so many bytes, at most 256.
func almost(t *testing.T, preset string, room int) *writer {
	t.Helper()
	w := write(t, room%8, preset)
	piece := noise(65535)
	for range 256 {
		w.partly(len(piece), piece)
	}
	w.partly(256-room, noise(256-room))
	if len(w.known) != len(preset)+1<<24-room {
		t.Fatalf("%d bytes leave no room for %d", len(w.known), room)
	}
	return w
}

// A text may have MaxText bytes, however the last ones are produced, and whatever follows that produces nothing.
func TestLongestTexts(t *testing.T) {
	for _, w := range []*writer{
		almost(t, "", 1).fixed(true).lit("z").end(),
		almost(t, "", 0).fixed(true).end(),
		almost(t, "", 100).stored(true, noise(100)),
		almost(t, noise(70000), 9).fixed(true).copy(9, 32768).end(),
		almost(t, "preset", 256).dynamic(false).copy(253, 7).copy(3, 32768).end().stored(false, "").dynamic(true).end(),
	} {
		checkLong(t, w, w.good())
	}
}

// A text of copies that are as long as possible, and of one byte more.
func TestLongestCopies(t *testing.T) {
	for _, more := range []string{"", "z"} {
		w := write(t, 2, "").fixed(true).lit("a")
		for range 65027 {
			w.copy(258, 1)
		}
		w.copy(248, 1).lit("b" + more).end()
		if more == "" {
			checkLong(t, w, w.good())
		} else {
			checkTooLong(t, w)
		}
	}
}

// checkTooLong expects ErrBig, behind as many bytes of what was written as there may be.
func checkTooLong(t *testing.T, w *writer) {
	t.Helper()
	checkLong(t, w, outcome{text: w.text()[:1<<24], e: api.ErrBig})
}

// A byte more is ErrBig, and the part of a copy or of a Stored block for which there is room is told.
func TestTooLong(t *testing.T) {
	for _, w := range []*writer{
		almost(t, "", 0).fixed(true).lit("z").end(),
		almost(t, "", 2).dynamic(true).lit("xyz").end(),
		almost(t, "", 0).stored(true, "z"),
		almost(t, noise(70000), 10).stored(true, noise(11)),
		almost(t, "", 10).stored(true, noise(65535)),
		almost(t, "", 0).fixed(true).copy(3, 1).end(),
		almost(t, noise(70000), 2).dynamic(true).copy(3, 32768).end(),
		almost(t, "", 100).fixed(true).copy(258, 3).end(),
		almost(t, "", 256).fixed(true).copy(253, 3).copy(258, 1000).end(),
	} {
		checkTooLong(t, w)
	}
}

// Where there is no room, what is found ahead of a byte is told ahead of ErrBig.
func TestErrorsAheadOfTooLong(t *testing.T) {
	full := almost(t, "", 0).fixed(true).length(286, 0, 0)
	checkLong(t, full, full.bad(api.ErrCode))
	full = almost(t, "", 0).fixed(true).length(257, 0, 0).dist(30, 0, 0)
	checkLong(t, full, full.bad(api.ErrCode))
	full = almost(t, "", 0).fixed(true).length(284, 0, 0)
	checkLong(t, full, full.bad(api.ErrShort))
	full = almost(t, "", 0).raw(7, 3)
	checkLong(t, full, full.bad(api.ErrBlock))
}

// A stored byte that is missing is ErrShort, also if there is no room for it; one that is there is ErrBig.
func TestTooLongStoredShort(t *testing.T) {
	for _, room := range []int{0, 5} {
		for there := max(0, room-1); there < room+3; there++ {
			w := almost(t, "", room).partly(room+3, noise(room + 3)[:there])
			if there > room {
				checkTooLong(t, w)
			} else {
				checkLong(t, w, w.bad(api.ErrShort))
			}
		}
	}
}
