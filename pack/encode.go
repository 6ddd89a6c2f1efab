package pack

import (
	"collimator/api"
	"collimator/bitrow"
	"collimator/block"
	"collimator/prefix"
	"collimator/spans"
)

const endOfBlock = 256 // the symbol between the bytes and the lengths

// Encode returns the parts as DEFLATE blocks, the last of which is Final.
func Encode(l []Part) (string, api.Errno) {
	if _, e := Text(l); e != api.OK {
		return "", e
	}
	c := &encoder{w: bitrow.Open(), fixed: newCodes(block.FixedLits(), block.FixedDists())}
	for i, p := range l {
		if e := c.part(p, i == len(l)-1); e != api.OK {
			return "", e
		}
	}
	return c.w.Text(), api.OK
}

// encoder writes parts, of which Text has found that they represent something.
type encoder struct {
	w     *bitrow.Writer
	fixed codes // one for all Fixed parts, so that many small ones do not look up the same symbols again
}

// codes are the codes of a block.
type codes struct{ lits, dists *code }

func newCodes(lits, dists []int) codes {
	return codes{newCode(lits), newCode(dists)}
}

// part writes a block.
func (c *encoder) part(p Part, final bool) api.Errno {
	h := block.Head{Final: final, Kind: p.Kind, Size: len(p.Text), Lits: p.Lits, Dists: p.Dists}
	if e := block.Write(c.w, h); e != api.OK {
		return e
	}
	switch p.Kind {
	case api.Fixed:
		return c.ops(p.Ops, c.fixed)
	case api.Dynamic:
		return c.ops(p.Ops, newCodes(p.Lits, p.Dists))
	}
	c.w.Bytes(p.Text)
	return api.OK
}

// ops writes the ops of a block and its end.
func (c *encoder) ops(ops []api.Op, by codes) api.Errno {
	for _, op := range ops {
		if e := c.op(op, by); e != api.OK {
			return e
		}
	}
	return by.lits.write(c.w, endOfBlock)
}

func (c *encoder) op(op api.Op, by codes) api.Errno {
	if op.Len == 0 {
		return by.lits.write(c.w, int(op.Lit))
	}
	if e := by.lits.number(c.w, spans.OfLength, op.Len); e != api.OK {
		return e
	}
	return by.dists.number(c.w, spans.OfDist, op.Dist)
}

// code writes symbols by their code lengths. It keeps the words of the symbols that it has written, because prefix.Write computes all codes again for each symbol.
type code struct {
	lengths []int
	words   []word
}

// word has the bits of a symbol's code as a number, the first one as the lowest one. Without bits it is not known yet.
type word struct{ bits, size int }

func newCode(lengths []int) *code {
	return &code{lengths: lengths, words: make([]word, len(lengths))}
}

// number writes the symbol of a length or a distance and its extra bits.
func (c *code) number(w *bitrow.Writer, of func(int) (int, int, int, api.Errno), n int) api.Errno {
	// There is one: Text has checked the op.
	symbol, bits, value, _ := of(n)
	if e := c.write(w, symbol); e != api.OK {
		return e
	}
	return w.Put(value, bits)
}

// write writes a symbol.
func (c *code) write(w *bitrow.Writer, symbol int) api.Errno {
	if symbol >= len(c.words) {
		return api.ErrArg
	}
	if c.words[symbol].size == 0 {
		found, e := wordOf(c.lengths, symbol)
		if e != api.OK {
			return e
		}
		c.words[symbol] = found
	}
	return w.Put(c.words[symbol].bits, c.words[symbol].size)
}

// wordOf writes a symbol apart from the others, to see its bits.
func wordOf(lengths []int, symbol int) (word, api.Errno) {
	apart := bitrow.Open()
	if e := prefix.Write(apart, lengths, symbol); e != api.OK {
		return word{}, e
	}
	// They are at the beginning of what was written, so there is no error.
	r, _ := bitrow.New(apart.Text(), 0)
	bits, _ := r.Bits(apart.Len())
	return word{bits, apart.Len()}, api.OK
}
