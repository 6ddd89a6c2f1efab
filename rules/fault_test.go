package rules_test

import (
	"strings"
	"testing"

	"collimator/api"
	"collimator/rules"
)

// P16.1: the chapter's second example, and that of the whole.
func TestFaultExample(t *testing.T) {
	checkFault(t, "a = (", "form at 4: open at 0")
	checkFault(t, "a = x*", "match at 4")
	_, b := rules.Parse("a = (")
	code, at := b.Root()
	if b.Code() != api.ErrForm || b.At() != 4 || code != api.ErrOpen || at != 0 || b.Deep() != 2 || b.Family() != 3 {
		t.Errorf("the blame is %q, of the family %d", b.Say(), b.Family())
	}
}

// P16.1: ErrEmpty at the end of a file without rules.
func TestFaultEmpty(t *testing.T) {
	checkFault(t, "", "empty at 0")
	checkFault(t, "\n", "empty at 1")
	checkFault(t, "\n\n\n", "empty at 3")
	checkFault(t, " ", "empty at 1")
	checkFault(t, " \t\r", "empty at 3")
	checkFault(t, "#", "empty at 1")
	checkFault(t, "# a = x", "empty at 7")
	checkFault(t, "\n# a = x\n\r\n \t#\n", "empty at 15")
}

// P16.1: ErrName at the first byte that is not a blank, if no name begins there.
func TestFaultName(t *testing.T) {
	checkFault(t, "= x", "name at 0")
	checkFault(t, " = x", "name at 1")
	checkFault(t, "\t\r =", "name at 3")
	checkFault(t, "9 = x", "name at 0")
	checkFault(t, "9a = x", "name at 0")
	checkFault(t, "0", "name at 0")
	checkFault(t, "_ = x", "name at 0")
	checkFault(t, " _a = x", "name at 1")
	checkFault(t, "A = x", "name at 0")
	checkFault(t, "Ab = x", "name at 0")
	checkFault(t, "a=x\n  B=y", "name at 6")
	checkFault(t, "a=x\n\n#\n \n 1 = y\n", "name at 10")
	checkFault(t, "a=x\r\n\r\n = y", "name at 8")
	checkFault(t, "\\", "name at 0")
	checkFault(t, "\v# no comment", "name at 0")
	checkFault(t, "\fa = x", "name at 0")
	checkFault(t, "\u00a0a = x", "name at 0")
	checkFault(t, "\u00e9 = x", "name at 0")
	checkFault(t, "\ufeffa = x", "name at 0")
}

// P16.1: each byte that a line can begin with.
func TestFaultFirstByte(t *testing.T) {
	for c := range 256 {
		s := string([]byte{byte(c)})
		switch {
		case 'a' <= c && c <= 'z':
			checkFile(t, s+"=x", s, "x")
			checkFile(t, " "+s+"_1=x", s+"_1", "x")
		case c == ' ' || c == '\t' || c == '\r' || c == '\n':
			checkFile(t, s+"a=x", "a", "x")
		case c == '#':
			checkFault(t, s+"a=x", "empty at 4")
		default:
			checkFault(t, s+"a=x", "name at 0")
			checkFault(t, "b=y\n "+s+"=x", "name at 5")
		}
	}
}

// P16.1: each byte behind the first one of a name: it belongs to the name, or is where an = must be.
func TestFaultSecondByte(t *testing.T) {
	for c := range 256 {
		s := string([]byte{byte(c)})
		switch {
		case 'a' <= c && c <= 'z' || '0' <= c && c <= '9' || c == '_':
			checkFile(t, "b"+s+"=x", "b"+s, "x")
		case c == ' ' || c == '\t' || c == '\r':
			checkFile(t, "b"+s+"=x", "b", "x")
		case c == '=':
			checkFile(t, "b"+s+"=x", "b", "=x")
		default:
			checkFault(t, "b"+s+"=x", "form at 1")
			checkFault(t, "a=x\n b \t"+s+"=x", "form at 8")
		}
	}
}

// P16.1: a name of 17 bytes or more is none, and the sequence is the longest one.
func TestFaultLongName(t *testing.T) {
	checkFault(t, "abcdefghijklmnopq = x", "name at 0")
	checkFault(t, " abcdefghijklmnopq = x", "name at 1")
	checkFault(t, "a2345678901234567", "name at 0")
	checkFault(t, "a________________ = (", "name at 0")
	checkFault(t, "a=x\n"+strings.Repeat("b", 8000), "name at 4")
	checkFault(t, "abcdefghijklmnop q = x", "form at 17")
	checkFault(t, "abcdefghijklmnopQ = x", "form at 16")
}

// P16.1: ErrForm where an = must be.
func TestFaultSign(t *testing.T) {
	checkFault(t, "a", "form at 1")
	checkFault(t, "a\n", "form at 1")
	checkFault(t, "a \t\r", "form at 4")
	checkFault(t, "a\r\n= x", "form at 2")
	checkFault(t, "a  \n= x", "form at 3")
	checkFault(t, "a b", "form at 2")
	checkFault(t, "a x = y", "form at 2")
	checkFault(t, "a # = x", "form at 2")
	checkFault(t, "a# = x", "form at 1")
	checkFault(t, "a: x", "form at 1")
	checkFault(t, "aB = x", "form at 1")
	checkFault(t, "a-b = x", "form at 1")
	checkFault(t, "  ab\t\\ = x", "form at 5")
	checkFault(t, "a = x\nb", "form at 7")
	checkFault(t, "a = x\n b \nc = y", "form at 9")
	checkFault(t, "a\v= x", "form at 1")
	checkFault(t, "a \u00a0= x", "form at 2")
}

// P16.1: ErrTwice at a name that an earlier rule has.
func TestFaultTwice(t *testing.T) {
	checkFault(t, "a=x\na=y", "twice at 4")
	checkFault(t, "a=x\n \t a = x", "twice at 7")
	checkFault(t, "a=x\nb=x\n\n#\na=x\n", "twice at 11")
	checkFault(t, "a=x\nb=x\nb=x\na=x\n", "twice at 8")
	checkFault(t, "a=x\nb=x\nc=x\nb=y\n", "twice at 12")
	checkFault(t, "abcdefghijklmnop=x\nabcdefghijklmnop=x", "twice at 19")
	checkFile(t, "abcdefghijklmnop=x\nabcdefghijklmnoq=x\na=x", "abcdefghijklmnop", "x", "abcdefghijklmnoq", "x", "a", "x")
	checkFile(t, "#a=x\na=x", "a", "x")
}

// P16.1: ErrForm at an expression that is faulty, with its error.
func TestFaultExpression(t *testing.T) {
	checkFault(t, "a=*", "form at 2: char at 0")
	checkFault(t, "a = x)", "form at 4: char at 1")
	checkFault(t, "  a \t=\r x\\q", "form at 8: char at 2")
	checkFault(t, "a = x(y", "form at 4: open at 1")
	checkFault(t, "a = ([", "form at 4: open at 1")
	checkFault(t, "a = x[b-a] ", "form at 4: range at 3")
	checkFault(t, "a = x{31}", "form at 4: range at 1")
	checkFault(t, "a = xy[]", "form at 4: empty at 2")
	checkFault(t, "a = x\nb = (\nc = )", "form at 10: open at 0")
	checkFault(t, "a = (\nb = )", "form at 4: open at 0")
	checkFault(t, "a = x # (", "form at 4: open at 4")
	checkFault(t, "a = x{1\n}", "form at 4: char at 3")
}

// P16.1: the blanks behind an expression are not its bytes, even where they are needed.
func TestFaultTrailingBlank(t *testing.T) {
	checkFault(t, "a = x\\ ", "form at 4: char at 2")
	checkFault(t, "a = [ ", "form at 4: open at 0")
	checkFault(t, "a = ( \r\n)", "form at 4: open at 0")
	checkFault(t, "a = [x-\t", "form at 4: open at 0")
	checkFault(t, "a = x|  ", "match at 4")
	checkFault(t, "a =  |x", "match at 5")
}

// P16.1: ErrMatch at an expression that matches the empty text.
func TestFaultMatch(t *testing.T) {
	checkFault(t, "a=x?", "match at 2")
	checkFault(t, "  a = x*y* ", "match at 6")
	checkFault(t, "a = ()", "match at 4")
	checkFault(t, "a = x{0}", "match at 4")
	checkFault(t, "a = x{,2}", "form at 4: char at 2")
	checkFault(t, "a = (x*)+", "match at 4")
	checkFault(t, "a = x|y|z*", "match at 4")
	checkFault(t, "a = x\nb = y\n\tc = |\nd", "match at 17")
	checkFile(t, "a = x*y", "a", "x*y")
	checkFile(t, "a = (|x)y", "a", "(|x)y")
	checkFile(t, "a = x* # y", "a", "x* # y")
}

// P16.1: an expression that is empty matches the empty text, at the end of the line.
func TestFaultNoExpression(t *testing.T) {
	checkFault(t, "a=", "match at 2")
	checkFault(t, "a=\n", "match at 2")
	checkFault(t, "a = ", "match at 4")
	checkFault(t, "a =\t\r \n", "match at 6")
	checkFault(t, "a =\r\nx", "match at 4")
	checkFault(t, "a = x\nb =  \nc = y", "match at 11")
}

// P16.1: of two errors of a line, the first one of the list.
func TestFaultOrder(t *testing.T) {
	checkFault(t, "A", "name at 0")
	checkFault(t, "A = (", "name at 0")
	checkFault(t, "A = x*", "name at 0")
	checkFault(t, "a (", "form at 2")
	checkFault(t, "a=x\na", "form at 5")
	checkFault(t, "a=x\na (", "form at 6")
	checkFault(t, "a=x\nA=y", "name at 4")
	checkFault(t, "a=x\na=(", "twice at 4")
	checkFault(t, "a=x\na=y*", "twice at 4")
	checkFault(t, "a=x\na=", "twice at 4")
	checkFault(t, "a=(x*", "form at 2: open at 0")
	checkFault(t, "a=x*)", "form at 2: char at 2")
}

// P16.1: of the errors of two lines, that of the first one.
func TestFaultLines(t *testing.T) {
	faults := []string{"A=x", "a", "b=x", "c=(", "d=x*"}
	says := []string{"name at 4", "form at 5", "twice at 4", "form at 6: open at 0", "match at 6"}
	for i, first := range faults {
		checkFault(t, "b=y\n"+first, says[i])
		for _, second := range faults {
			checkFault(t, "b=y\n"+first+"\n"+second, says[i])
			checkFault(t, "b=y\n"+first+"\n\n"+second+"\n", says[i])
		}
	}
}
