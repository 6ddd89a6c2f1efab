package inflate_test

import (
	"math"
	"testing"

	"collimator/api"
	"collimator/inflate"
)

// mixed writes a short text of literals, copies and stored bytes, so that some steps end within each of them.
func mixed(w *writer) *writer {
	w.t.Helper()
	w.fixed(false).lit("abc").copy(6, 2).end().stored(false, "").stored(false, "stored")
	return w.dynamic(false).end().dynamic(true).lit("d").copy(15, 7).copy(3, 1).end()
}

func TestStep(t *testing.T) {
	w := write(t, 3, "").fixed(true).lit("abc").copy(6, 2).end()
	m := newMachine(t, w.bits.Text()+"behind", 3, "")
	for _, c := range []struct {
		n    int
		want string
	}{{1, "a"}, {1, "b"}, {2, "cb"}, {3, "cbc"}, {9, "bc"}, {1, ""}, {9, ""}} {
		if s, e := m.Step(c.n); s != c.want || e != api.OK {
			t.Errorf("Step(%d) = %q, %d; want %q", c.n, s, e, c.want)
		}
	}
	if m.Out() != 9 || !m.Done() || m.End() != 3+3+24+7+5+7 || len(m.Starts()) != 1 || m.Starts()[0] != (inflate.Start{Bit: 3}) {
		t.Errorf("at the end: %d, %t, %d, %v", m.Out(), m.Done(), m.End(), m.Starts())
	}
}

func TestStepSizes(t *testing.T) {
	eachPosition(func(from int) {
		w := mixed(write(t, from, "preset"))
		w.checkGood()
		for n := 1; n < 40; n++ {
			checkSteps(t, w.bits.Text(), from, "preset", w.good(), n)
			checkSteps(t, w.bits.Text(), from, "preset", w.good(), n, 1)
			checkSteps(t, w.bits.Text(), from, "preset", w.good(), 1, n, n+1)
		}
	})
}

// checkNoStep expects ErrArg, and that nothing changes.
func checkNoStep(t *testing.T, m *inflate.Machine, want outcome, out int) {
	t.Helper()
	for _, n := range []int{0, -1, -2, -1 << 32, math.MinInt} {
		if s, e := m.Step(n); s != "" || e != api.ErrArg {
			t.Fatalf("behind %d bytes: Step(%d) = %q, %d; want ErrArg", out, n, s, e)
		}
		checkState(t, m, want, out)
	}
}

// Steps of less than a byte are ErrArg: at the start, within the text, at its end, and behind an error.
func TestStepArg(t *testing.T) {
	good := mixed(write(t, 0, ""))
	bad := write(t, 0, "").stored(false, "abc").fixed(true).lit("defg").length(286, 0, 0)
	empty := write(t, 0, "").fixed(true).end()
	none := write(t, 0, "").raw(7, 3)
	for _, c := range []struct {
		w    *writer
		want outcome
	}{{good, good.good()}, {bad, bad.bad(api.ErrCode)}, {empty, empty.good()}, {none, none.bad(api.ErrBlock)}} {
		m := newMachine(t, c.w.bits.Text(), 0, "")
		for out := 0; ; out++ {
			checkNoStep(t, m, c.want, out)
			if out == len(c.want.text) {
				break
			}
			checkStep(t, m, c.want, out, 1)
		}
		checkRest(t, m, c.want, len(c.want.text), 1)
		checkNoStep(t, m, c.want, len(c.want.text))
	}
}

// With the last byte a machine is done, also if empty blocks follow; if there is an error in them, it is not.
func TestDoneWithTheLastByte(t *testing.T) {
	for _, n := range []int{3, 4, math.MaxInt} {
		w := write(t, 0, "").stored(false, "abc").fixed(false).end().stored(false, "").dynamic(true).end()
		m := newMachine(t, w.bits.Text(), 0, "")
		if m.Done() || m.End() != 0 || len(m.Starts()) != 0 {
			t.Errorf("at the start: %t, %d, %v", m.Done(), m.End(), m.Starts())
		}
		if s, e := m.Step(n); s != "abc" || e != api.OK || !m.Done() || m.Out() != 3 || m.End() != w.bits.Len() || len(m.Starts()) != 4 {
			t.Errorf("Step(%d) = %q, %d, and then %t, %d, %d, %v", n, s, e, m.Done(), m.Out(), m.End(), m.Starts())
		}
		m = newMachine(t, write(t, 0, "").stored(false, "abc").fixed(false).end().raw(7, 3).bits.Text(), 0, "")
		if s, e := m.Step(n); s != "abc" || e != api.OK || m.Done() || m.Out() != 3 || m.End() != 0 || len(m.Starts()) != 0 {
			t.Errorf("Step(%d) ahead of an error = %q, %d, and then %t, %d, %d, %v", n, s, e, m.Done(), m.Out(), m.End(), m.Starts())
		}
		for range 3 {
			if s, e := m.Step(n); s != "" || e != api.ErrBlock || m.Done() || m.Out() != 3 {
				t.Errorf("Step(%d) at the error = %q, %d, and then %t, %d", n, s, e, m.Done(), m.Out())
			}
		}
	}
}

// Without a text a machine is done from the start, without a step.
func TestDoneWithoutBytes(t *testing.T) {
	w := write(t, 9, "preset").fixed(false).end().stored(true, "")
	m := newMachine(t, w.bits.Text(), 9, "preset")
	starts := m.Starts()
	if !m.Done() || m.Out() != 0 || m.End() != w.bits.Len() || len(starts) != 2 || starts[0] != (inflate.Start{Bit: 9}) || starts[1] != (inflate.Start{Bit: 19}) {
		t.Errorf("%t, %d, %d, %v", m.Done(), m.Out(), m.End(), starts)
	}
	m = newMachine(t, write(t, 0, "").fixed(false).end().raw(7, 3).bits.Text(), 0, "")
	if m.Done() || m.Out() != 0 || m.End() != 0 || len(m.Starts()) != 0 {
		t.Errorf("ahead of an error: %t, %d, %d, %v", m.Done(), m.Out(), m.End(), m.Starts())
	}
}

// checkCopies copies a machine at each place where steps of n bytes end. The copy, a copy of it and the machine then go on in each order, with steps of any sizes, and none of them changes another one.
func checkCopies(t *testing.T, s string, from int, preset string, want outcome, n int) {
	t.Helper()
	m := newMachine(t, s, from, preset)
	for out := 0; ; {
		c := m.Copy()
		if c == nil || c == m {
			t.Fatalf("behind %d bytes: the copy of %p is %p", out, m, c)
		}
		again, kept := c.Copy(), c.Copy()
		checkRest(t, c, want, out, 3, 100)
		checkState(t, again, want, out)
		checkState(t, m, want, out)
		checkRest(t, again, want, out, 1)
		checkRest(t, again.Copy(), want, len(want.text), 1)
		if out == len(want.text) {
			checkRest(t, kept, want, out, 1)
			return
		}
		next := checkStep(t, m, want, out, n)
		checkState(t, kept, want, out)
		checkRest(t, kept, want, out, 5)
		out = next
	}
}

func TestCopies(t *testing.T) {
	for from := range 8 {
		w := mixed(write(t, from, "preset"))
		cut := w.bits.Text()[:w.bits.Len()/8-2]
		bad := write(t, from, "preset").stored(false, "abc").fixed(true).copy(6, 2).lit("d").length(287, 0, 0)
		for n := 1; n < 6; n++ {
			checkCopies(t, w.bits.Text(), from, "preset", w.good(), n)
			checkCopies(t, cut, from, "preset", w.cut(8*len(cut)), n)
			checkCopies(t, bad.bits.Text(), from, "preset", bad.bad(api.ErrCode), n)
		}
	}
}

// A copy has a window of its own: what the one machine appends is not what the other one copies from.
func TestCopiesWithFullWindows(t *testing.T) {
	for _, size := range []int{30000, 32768, 40000} {
		w := write(t, 0, noise(size)).fixed(true)
		for dist := 100; dist < size && dist < 32768; dist += 1000 {
			w.copy(258, dist)
		}
		w.end()
		m := newMachine(t, w.bits.Text(), 0, noise(size))
		for out := 0; out < len(w.text()); {
			c := m.Copy()
			checkRest(t, c, w.good(), out, 1000)
			out = checkStep(t, m, w.good(), out, 777)
		}
		checkRest(t, m, w.good(), len(w.text()), 1)
	}
}

// Two machines that go on by turns.
func TestCopiesByTurns(t *testing.T) {
	w := mixed(write(t, 1, "preset"))
	a := newMachine(t, w.bits.Text(), 1, "preset")
	b := a.Copy()
	outA, outB := 0, 0
	for i := range 40 {
		outA = checkStep(t, a, w.good(), outA, 1+i%3)
		outB = checkStep(t, b, w.good(), outB, 1+i%2)
		checkState(t, a, w.good(), outA)
	}
}
