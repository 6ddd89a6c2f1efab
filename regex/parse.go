package regex

import (
	"strings"

	"collimator/api"
	"collimator/charset"
)

// The digits of numbers and of bytes, and the bytes that stand for themselves after a backslash.
const (
	digits    = "0123456789"
	hexDigits = "0123456789abcdef"
	escapable = `\[](){}*+?|.-^/"`
)

// A parser reads an expression from left to right. Each of its methods that reads a part begins at the part's first byte and leaves the parser after its last one.
type parser struct {
	text string
	at   int
	code api.Errno
	spot int
}

// Parse is the tree of an expression, or an error and its offset.
func Parse(s string) ([]api.Node, api.Errno, int) {
	if len(s) > api.MaxRegex {
		return nil, api.ErrBig, api.MaxRegex
	}
	p := &parser{text: s}
	l := p.alt()
	if p.at < len(s) { // at a ) without a (
		p.fail(api.ErrChar, p.at)
	}
	if len(l) > api.MaxAst {
		p.fail(api.ErrBig, 0)
	}
	if p.code != api.OK {
		return nil, p.code, p.spot
	}
	return l, api.OK, 0
}

// fail keeps the first error, and ends the text for all that would still read from it.
func (p *parser) fail(e api.Errno, at int) {
	if p.code == api.OK {
		p.code, p.spot = e, at
	}
	p.at = len(p.text)
}

// next tells whether the next byte is one of some.
func (p *parser) next(some string) bool {
	return p.at < len(p.text) && strings.IndexByte(some, p.text[p.at]) >= 0
}

// take goes past the next byte if it is one of some.
func (p *parser) take(some string) bool {
	is := p.next(some)
	if is {
		p.at++
	}
	return is
}

func (p *parser) alt() []api.Node {
	parts := [][]api.Node{p.cat()}
	for p.take("|") {
		parts = append(parts, p.cat())
	}
	return join(api.RAlt, parts...)
}

func (p *parser) cat() []api.Node {
	var parts [][]api.Node
	for p.at < len(p.text) && !p.next("|)") {
		parts = append(parts, p.rep())
	}
	return join(api.RCat, parts...)
}

func (p *parser) rep() []api.Node {
	l := p.atom()
	for {
		switch {
		case p.take("*"):
			l = above(api.Node{Kind: api.RStar}, l)
		case p.take("+"):
			l = above(api.Node{Kind: api.RPlus}, l)
		case p.take("?"):
			l = above(api.Node{Kind: api.ROpt}, l)
		case p.next("{"):
			l = above(p.bounds(), l)
		default:
			return l
		}
	}
}

// bounds reads the numbers of a repetition, with their braces.
func (p *parser) bounds() api.Node {
	from := p.at
	p.at++
	low := p.number()
	high := low
	if p.take(",") {
		high = unbounded
		if !p.next("}") {
			high = p.number()
		}
	}
	if !p.take("}") {
		p.fail(api.ErrChar, p.at)
	}
	if !bounded(low, high) {
		p.fail(api.ErrRange, from)
	}
	return api.Node{Kind: api.RRepeat, Low: low, High: high}
}

// number reads one or two digits.
func (p *parser) number() int {
	from, n := p.at, 0
	for p.at < from+2 && p.next(digits) {
		n = 10*n + strings.IndexByte(digits, p.text[p.at])
		p.at++
	}
	if p.at == from {
		p.fail(api.ErrChar, from)
	}
	return n
}

func (p *parser) atom() []api.Node {
	from := p.at
	switch c := p.text[p.at]; c {
	case '(':
		return p.inside(p.alt, ")")
	case '[':
		l := p.inside(p.class, "]")
		if l[0].Set == (api.Set{}) {
			p.fail(api.ErrEmpty, from)
		}
		return l
	case '\\':
		return one(p.escape())
	case '.':
		p.at++
		return one(charset.Not(charset.Of("\n")))
	case ']', '{', '}', '*', '+', '?':
		p.fail(api.ErrChar, from)
		return nil
	default:
		p.at++
		return one(charset.Range(c, c))
	}
}

// inside reads a part that is in brackets, with its brackets. The reader of the part stops only at the closing one, or at the end.
func (p *parser) inside(read func() []api.Node, closing string) []api.Node {
	open := p.at
	p.at++
	l := read()
	if !p.take(closing) {
		p.fail(api.ErrOpen, open)
	}
	return l
}

func (p *parser) class() []api.Node {
	inverted := p.take("^")
	var set api.Set
	for p.at < len(p.text) && !p.next("]") {
		set = charset.Or(set, p.item())
	}
	if inverted {
		set = charset.Not(set)
	}
	return one(set)
}

func (p *parser) item() api.Set {
	first := p.char()
	dash := p.at
	if !p.take("-") || p.at == len(p.text) { // class tells that the text ends
		return first
	}
	from, to := charset.Bytes(first), charset.Bytes(p.char())
	if len(from) != 1 || len(to) != 1 || from[0] > to[0] {
		p.fail(api.ErrRange, dash)
		return api.Set{}
	}
	return charset.Range(from[0], to[0])
}

// char reads a byte of a class, or an escape.
func (p *parser) char() api.Set {
	c := p.text[p.at]
	switch c {
	case '\\':
		return p.escape()
	case ']', '-':
		p.fail(api.ErrChar, p.at)
		return api.Set{}
	}
	p.at++
	return charset.Range(c, c)
}

// escape reads a backslash and what follows it.
func (p *parser) escape() api.Set {
	p.at++
	set, size := meaning(p.text[p.at:])
	if size == 0 {
		p.fail(api.ErrChar, p.at)
		return set
	}
	p.at += size
	return set
}

// meaning is the set of the escape that a text begins with, and its length, or 0 if it begins with none.
func meaning(s string) (api.Set, int) {
	if s == "" {
		return api.Set{}, 0
	}
	switch c := s[0]; c {
	case 'n':
		return charset.Of("\n"), 1
	case 't':
		return charset.Of("\t"), 1
	case 's':
		return charset.Of(" "), 1
	case 'd':
		return charset.Of(digits), 1
	case 'w':
		letters := charset.Or(charset.Range('A', 'Z'), charset.Range('a', 'z'))
		return charset.Or(letters, charset.Of(digits+"_")), 1
	case 'x':
		return numbered(s)
	default:
		if strings.IndexByte(escapable, c) < 0 {
			return api.Set{}, 0
		}
		return charset.Range(c, c), 1
	}
}

// numbered is the set of the byte whose number is in the two digits after an x, and the length with the x.
func numbered(s string) (api.Set, int) {
	if len(s) < 3 {
		return api.Set{}, 0
	}
	high, low := strings.IndexByte(hexDigits, s[1]), strings.IndexByte(hexDigits, s[2])
	if high < 0 || low < 0 {
		return api.Set{}, 0
	}
	c := byte(16*high + low)
	return charset.Range(c, c), 3
}

// join is the tree of parts under a node of a kind. A single part needs no node above it.
func join(kind int, parts ...[]api.Node) []api.Node {
	switch len(parts) {
	case 0:
		return above(api.Node{Kind: api.REmpty})
	case 1:
		return parts[0]
	}
	return above(api.Node{Kind: kind}, parts...)
}

// above is the tree of a node and the parts that are its children.
func above(x api.Node, parts ...[]api.Node) []api.Node {
	x.Kids = len(parts)
	l := []api.Node{x}
	for _, part := range parts {
		l = append(l, part...)
	}
	return l
}

// one is the tree of one byte of a set.
func one(set api.Set) []api.Node {
	return above(api.Node{Kind: api.RSet, Set: set})
}
