package block

import (
	"slices"

	"collimator/api"
	"collimator/bitrow"
	"collimator/prefix"
)

// Write writes a block header.
func Write(w *bitrow.Writer, h Head) api.Errno {
	// To append no bits tells whether there is a writer, before anything else is checked.
	if e := w.Put(0, 0); e != api.OK {
		return e
	}
	if e := unwritable(h); e != api.OK {
		return e
	}
	// All is checked, so that nothing that is appended from here on returns an error.
	w.Put(bit(h.Final), finalBits)
	w.Put(h.Kind, kindBits)
	switch h.Kind {
	case api.Stored:
		writeSize(w, h.Size)
	case api.Dynamic:
		writeLengths(w, h.Lits, h.Dists)
	}
	return api.OK
}

// unwritable returns why a header can't be written, or OK.
func unwritable(h Head) api.Errno {
	switch h.Kind {
	case api.Stored:
		if h.Size < 0 || h.Size > mostSize {
			return api.ErrArg
		}
	case api.Fixed:
	case api.Dynamic:
		if len(h.Lits) < fewestLits || len(h.Lits) > mostLits || len(h.Dists) < fewestDists || len(h.Dists) > mostDists {
			return api.ErrArg
		}
		return unfit(h.Lits, h.Dists)
	default:
		return api.ErrArg
	}
	return api.OK
}

func bit(is bool) int {
	if is {
		return 1
	}
	return 0
}

// writeSize writes the rest of a Stored header.
func writeSize(w *bitrow.Writer, size int) {
	w.Align()
	w.Put(size, sizeBits)
	w.Put(size^mostSize, sizeBits)
}

// writeLengths writes the rest of a Dynamic header.
func writeLengths(w *bitrow.Writer, lits, dists []int) {
	// The codes of 4 bits are just enough for the lengths; nothing is repeated.
	l := slices.Concat(equal(4, plainSymbols), equal(0, innerSymbols-plainSymbols))
	w.Put(len(lits)-fewestLits, litsBits)
	w.Put(len(dists)-fewestDists, distsBits)
	w.Put(len(l)-fewestInner, innerBits)
	for i := range order {
		w.Put(l[order[i]], innerLengthBits)
	}
	for _, length := range slices.Concat(lits, dists) {
		prefix.Write(w, l, length)
	}
}
