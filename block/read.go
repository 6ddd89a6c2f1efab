package block

import (
	"slices"

	"collimator/api"
	"collimator/bitrow"
	"collimator/lens"
	"collimator/prefix"
)

// Read reads a block header and advances the reader past it.
func Read(r *bitrow.Reader) (Head, api.Errno) {
	// The bits are taken from a copy, so that with an error the reader stands where it stood.
	c := r.Copy()
	if c == nil {
		return Head{}, api.ErrNil
	}
	h, e := readHead(c)
	if e != api.OK {
		return Head{}, e
	}
	advance(r, c.At())
	return h, api.OK
}

// advance brings the reader to a later position of its string.
func advance(r *bitrow.Reader, at int) {
	const most = 32 // a reader skips no more at once
	for left := at - r.At(); left > 0; left -= most {
		r.Skip(min(left, most))
	}
}

func readHead(r *bitrow.Reader) (Head, api.Errno) {
	begin, e := r.Bits(finalBits + kindBits)
	if e != api.OK {
		return Head{}, e
	}
	h := Head{Final: begin%(1<<finalBits) == 1, Kind: begin >> finalBits}
	switch h.Kind {
	case api.Stored:
		h.Size, e = readSize(r)
	case api.Fixed:
		h.Lits, h.Dists = FixedLits(), FixedDists()
	case api.Dynamic:
		h.Lits, h.Dists, e = readLengths(r)
	default:
		e = api.ErrBlock
	}
	return h, e
}

// readSize reads the rest of a Stored header.
func readSize(r *bitrow.Reader) (int, api.Errno) {
	r.Align()
	both, e := r.Bits(sizeBits + sizeBits)
	if e != api.OK {
		return 0, e
	}
	size, inverted := both%(1<<sizeBits), both>>sizeBits
	if inverted != size^mostSize {
		return 0, api.ErrSize
	}
	return size, api.OK
}

// readLengths reads the rest of a Dynamic header.
func readLengths(r *bitrow.Reader) ([]int, []int, api.Errno) {
	numbers, e := r.Bits(litsBits + distsBits + innerBits)
	if e != api.OK {
		return nil, nil, e
	}
	lits := fewestLits + numbers%(1<<litsBits)
	dists := fewestDists + numbers>>litsBits%(1<<distsBits)
	inner := fewestInner + numbers>>(litsBits+distsBits)
	if lits > mostLits || dists > mostDists {
		return nil, nil, api.ErrBig
	}
	code, e := readCode(r, inner)
	if e != api.OK {
		return nil, nil, e
	}
	q := sequence{reader: r, code: code, count: lits + dists}
	if e := q.read(); e != api.OK {
		return nil, nil, e
	}
	if e := unfit(q.lengths[:lits], q.lengths[lits:]); e != api.OK {
		return nil, nil, e
	}
	// Two copies, so that what is appended to the one is not seen in the other.
	return slices.Clone(q.lengths[:lits]), slices.Clone(q.lengths[lits:]), api.OK
}

// readCode reads the lengths of the inner code, count of them.
func readCode(r *bitrow.Reader, count int) (*prefix.Table, api.Errno) {
	l := equal(0, innerSymbols)
	for i := range count {
		length, e := r.Bits(innerLengthBits)
		if e != api.OK {
			return nil, e
		}
		l[order[i]] = length
	}
	if e := lens.Fits(l, false); e != api.OK {
		return nil, e
	}
	return prefix.New(l)
}

// sequence is all Lits followed by all Dists, as far as they are read.
type sequence struct {
	reader  *bitrow.Reader
	code    *prefix.Table
	lengths []int
	count   int // of all lengths
}

func (q *sequence) read() api.Errno {
	for len(q.lengths) < q.count {
		symbol, e := q.code.Read(q.reader)
		if e != api.OK {
			return e
		}
		if e := q.add(symbol); e != api.OK {
			return e
		}
	}
	return api.OK
}

// add appends the lengths that a symbol stands for.
func (q *sequence) add(symbol int) api.Errno {
	length, least, extra := q.previous(), 3, 2
	// Each case adds what it has beyond the one that it falls through to.
	switch symbol {
	case manyZeros:
		least += 8
		extra += 4
		fallthrough
	case zeros:
		length = 0
		extra++
		fallthrough
	case again:
		return q.repeat(length, least, extra)
	}
	q.lengths = append(q.lengths, symbol)
	return api.OK
}

// previous returns the last length, or -1.
func (q *sequence) previous() int {
	if len(q.lengths) == 0 {
		return -1
	}
	return q.lengths[len(q.lengths)-1]
}

// repeat appends a length as often as the extra bits tell.
func (q *sequence) repeat(length, least, extra int) api.Errno {
	// Ahead of the extra bits: that there is no previous length is known without them.
	if length < 0 {
		return api.ErrForm
	}
	more, e := q.reader.Bits(extra)
	if e != api.OK {
		return e
	}
	times := least + more
	if times > q.count-len(q.lengths) {
		return api.ErrBig
	}
	q.lengths = append(q.lengths, equal(length, times)...)
	return api.OK
}
