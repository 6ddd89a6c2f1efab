package rules_test

import (
	"regexp"
	"slices"
	"strings"
	"testing"

	"collimator/api"
	"collimator/blame"
	"collimator/regex"
	"collimator/rules"
)

// The model takes lines apart by Go's regular expressions.
var (
	idle  = regexp.MustCompile(`(?s)^[ \t\r]*(#.*)?$`)
	parts = regexp.MustCompile(`(?s)^[ \t\r]*([a-z0-9_]*)[ \t\r]*((=?)[ \t\r]*(.*?))[ \t\r]*$`)
	named = regexp.MustCompile(`^[a-z][a-z0-9_]{0,15}$`)
)

// model is what the chapter says that Parse returns.
func model(s string) ([]api.Rule, blame.Blame) {
	if len(s) > 8192 {
		return nil, blame.New(api.ErrBig, 8192)
	}
	var l []api.Rule
	names := map[string]int{}
	for from := 0; from <= len(s); {
		line := s[from:]
		if n := strings.IndexByte(line, 10); n >= 0 {
			line = line[:n]
		}
		if !idle.MatchString(line) {
			m := parts.FindStringSubmatchIndex(line)
			name, text := line[m[2]:m[3]], line[m[8]:m[9]]
			code, at, cause := modelFault(name, names[name], line[m[6]:m[7]], text, len(l))
			if code != api.OK {
				return nil, blame.Under(code, from+m[at], cause)
			}
			l = append(l, api.Rule{Name: name, Text: text})
			names[name]++
		}
		from += len(line) + 1
	}
	if len(l) == 0 {
		return nil, blame.New(api.ErrEmpty, len(s))
	}
	return l, blame.Blame{}
}

// modelFault is the first error of a rule, the number of the index in the line that tells where, and what it wraps.
func modelFault(name string, before int, sign, text string, rules int) (api.Errno, int, blame.Blame) {
	tree, e, at := regex.Parse(text)
	switch {
	case !named.MatchString(name):
		return api.ErrName, 2, blame.Blame{}
	case sign != "=":
		return api.ErrForm, 4, blame.Blame{}
	case before > 0:
		return api.ErrTwice, 2, blame.Blame{}
	case rules == 32:
		return api.ErrBig, 2, blame.Blame{}
	case e != api.OK:
		return api.ErrForm, 8, blame.New(e, at)
	case regex.Empty(tree):
		return api.ErrMatch, 8, blame.Blame{}
	}
	return api.OK, 0, blame.Blame{}
}

// checkModel expects that Parse returns what the model does. It returns the rules.
func checkModel(t *testing.T, s string) []api.Rule {
	t.Helper()
	l, b := rules.Parse(s)
	want, fault := model(s)
	if !slices.Equal(l, want) || b != fault {
		t.Fatalf("Parse(%q) is %q and %q; want %q and %q", s, l, b.Say(), want, fault.Say())
	}
	return l
}

// pairs are rules, given by names and texts in turn.
func pairs(words ...string) []api.Rule {
	var l []api.Rule
	for i := 0; i < len(words); i += 2 {
		l = append(l, api.Rule{Name: words[i], Text: words[i+1]})
	}
	return l
}

// checkFile expects the rules of a file, given by names and texts in turn.
func checkFile(t *testing.T, s string, words ...string) {
	t.Helper()
	want := pairs(words...)
	l, b := rules.Parse(s)
	if !slices.Equal(l, want) {
		t.Errorf("Parse(%q) is %q; want %q", s, l, want)
	}
	if b != (blame.Blame{}) {
		t.Errorf("Parse(%q) has the blame %q", s, b.Say())
	}
	if l, b := model(s); !slices.Equal(l, want) || b.Deep() != 0 {
		t.Errorf("the model of %q is %q and %q", s, l, b.Say())
	}
}

// checkFault expects no rules, and a blame by what it says.
func checkFault(t *testing.T, s, say string) {
	t.Helper()
	l, b := rules.Parse(s)
	if len(l) != 0 {
		t.Errorf("Parse(%q) has an error and the rules %q", s, l)
	}
	if b.Say() != say {
		t.Errorf("Parse(%q) has the blame %q; want %q", s, b.Say(), say)
	}
	if _, b := model(s); b.Say() != say {
		t.Errorf("the model of %q has the blame %q; want %q", s, b.Say(), say)
	}
}
