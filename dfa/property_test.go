package dfa_test

import (
	"fmt"
	"math/rand"
	"slices"
	"testing"

	"collimator/api"
	"collimator/dfa"
)

// checkCut expects that a text in two parts leads to where it leads at once.
func checkCut(t *testing.T, d api.Dfa, a, b string) {
	t.Helper()
	state := dfa.Run(d, a)
	for _, c := range []byte(b) {
		state = dfa.Step(d, state, c)
	}
	if run := dfa.Run(d, a+b); run != state {
		t.Errorf("%v: Run of %q and %q is %d; by steps %d", d, a, b, run, state)
	}
	if after := dfa.After(d, a+b); after != d.Rules[state] {
		t.Errorf("%v: After %q and %q is %d; want %d", d, a, b, after, d.Rules[state])
	}
	// b alone, by an automaton that begins where a leads to.
	if run := dfa.Run(begun(d, dfa.Run(d, a)), b); renamed(run, dfa.Run(d, a)) != state {
		t.Errorf("%v: Run of %q from the state after %q is %d; want %d", d, b, a, run, state)
	}
}

// begun is an automaton that begins with another state: the numbers of that state and 0 are exchanged.
func begun(d api.Dfa, state int) api.Dfa {
	d = copied(d)
	d.Next[0], d.Next[state] = d.Next[state], d.Next[0]
	d.Rules[0], d.Rules[state] = d.Rules[state], d.Rules[0]
	for _, row := range d.Next {
		for i, to := range row {
			row[i] = renamed(to, state)
		}
	}
	return d
}

// renamed is a state of an automaton in which the numbers of some state and 0 are exchanged.
func renamed(to, state int) int {
	switch to {
	case 0:
		return state
	case state:
		return 0
	}
	return to
}

// checkDead expects that behind a state that is not live there is no rule, and that from each other one there is a way to one.
func checkDead(t *testing.T, d api.Dfa) {
	t.Helper()
	live := dfa.Live(d)
	for from := range d.Next {
		rule := false
		for _, to := range reach(d, from) {
			rule = rule || d.Rules[to] != -1
			if !live[from] && live[to] {
				t.Errorf("%v: the live state %d behind %d, which is not", d, to, from)
			}
		}
		if rule != live[from] {
			t.Errorf("%v: from %d, a rule: %v, live: %v", d, from, rule, live[from])
		}
	}
}

// reach is the states that steps lead to from a state, itself included.
func reach(d api.Dfa, from int) []int {
	met := map[int]bool{from: true}
	list := []int{from}
	for i := 0; i < len(list); i++ {
		for class := range d.Next[0] {
			c := slices.Index(d.Class[:], class)
			if to := dfa.Step(d, list[i], byte(c)); !met[to] {
				met[to] = true
				list = append(list, to)
			}
		}
	}
	return list
}

// P18.4: all automata of one or two states and classes, and many of three states, with all texts of up to four bytes in each two parts.
func TestAllSmall(t *testing.T) {
	texts := short(4)
	seen := 0
	for states := 1; states <= 3; states++ {
		for classes := 1; classes <= 2; classes++ {
			for number := range power(states, states*classes) {
				for rules := range 1 << states {
					if states == 3 && classes == 2 && (number+rules)%13 > 0 {
						continue
					}
					d := numbered(states, classes, number, rules)
					checkLive(t, d, modelLive(d))
					for _, s := range texts {
						checkText(t, d, s)
						for cut := range len(s) + 1 {
							checkCut(t, d, s[:cut], s[cut:])
						}
					}
					seen++
				}
			}
		}
	}
	if seen < 700 {
		t.Errorf("only %d automata", seen)
	}
}

// short are all texts of up to some bytes 0 and 255.
func short(most int) []string {
	texts := []string{""}
	for i := 0; len(texts[i]) < most; i++ {
		texts = append(texts, texts[i]+"\x00", texts[i]+"\xff")
	}
	return texts
}

func power(base, exponent int) int {
	n := 1
	for range exponent {
		n *= base
	}
	return n
}

// numbered is the automaton whose rows have the digits of a number, and whose states have a rule where the bits of another are set. The last byte has the last class.
func numbered(states, classes, number, rules int) api.Dfa {
	d := api.Dfa{Rules: make([]int, states)}
	d.Class[255] = classes - 1
	for state := range states {
		row := make([]int, classes)
		for i := range row {
			row[i] = number % states
			number /= states
		}
		d.Next = append(d.Next, row)
		d.Rules[state] = rules>>state&1*(state+1) - 1
	}
	return d
}

// P18.4: for many automata, a text in each two parts leads to where it leads at once.
func TestManyCuts(t *testing.T) {
	rng := rand.New(rand.NewSource(187))
	for range 1000 {
		d := someDfa(rng, 1+rng.Intn(1<<rng.Intn(6)), 1+rng.Intn(1<<rng.Intn(9)))
		s := someText(rng, rng.Intn(20))
		for cut := range len(s) + 1 {
			checkCut(t, d, s[:cut], s[cut:])
		}
	}
}

// P18.4: for many automata, no rule behind a state that is not live.
func TestManyDead(t *testing.T) {
	rng := rand.New(rand.NewSource(188))
	for range 300 {
		d := someDfa(rng, 1+rng.Intn(12), 1+rng.Intn(4))
		for state := range d.Rules {
			if rng.Intn(3) > 0 {
				d.Rules[state] = -1
			}
		}
		checkDead(t, d)
	}
}

// R1: no arguments make a function panic; what is not valid has the results that the chapter states.
func FuzzAny(f *testing.F) {
	f.Add([]byte("\x03\x02\x01\x01\x02\x00\x00\x01\x02\x05\x00\x04"), "abc", 1)
	f.Add([]byte("\x01\x00\x00\x00\x01"), "\x00\xff", 0)
	f.Add([]byte{}, "", -1)
	f.Fuzz(func(t *testing.T, raw []byte, s string, state int) {
		d := fromBytes(raw)
		if dfa.Right(d) != modelRight(d) {
			t.Fatalf("%v: Right is %v", d, dfa.Right(d))
		}
		checkSame(t, fmt.Sprint(d), d, copied(d), true)
		if !dfa.Right(d) {
			checkWrong(t, fmt.Sprint(d), d)
			return
		}
		checkText(t, d, s)
		checkCut(t, d, s[:len(s)/2], s[len(s)/2:])
		checkLive(t, d, modelLive(d))
		if got := dfa.Step(d, state, 'a'); (state < 0 || state >= len(d.Next)) != (got == -1) {
			t.Errorf("%v: Step from %d is %d", d, state, got)
		}
	})
}

// fromBytes makes an automaton of any bytes; it is often valid or nearly so.
func fromBytes(raw []byte) api.Dfa {
	next := func() int {
		if len(raw) == 0 {
			return 0
		}
		n := int(int8(raw[0]))
		raw = raw[1:]
		return n
	}
	states, classes := next(), next()
	var d api.Dfa
	for c := range classes {
		d.Class[(c*17+next())&255] = c
	}
	for range states {
		row := make([]int, max(0, classes))
		for i := range row {
			row[i] = next()
		}
		d.Next = append(d.Next, row)
		d.Rules = append(d.Rules, next()-1)
	}
	if len(raw) > 1 {
		c := next() & 255
		d.Class[c] = next()
	}
	return d
}
