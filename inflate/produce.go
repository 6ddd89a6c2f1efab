package inflate

import (
	"collimator/api"
	"collimator/bitrow"
	"collimator/block"
	"collimator/prefix"
	"collimator/spans"
)

const endOfBlock = 256 // the symbol between the bytes and the lengths

// isOver reports whether nothing more is produced.
func (m *Machine) isOver() bool {
	return m.fault != api.OK || m.next == nil && m.final
}

// produce goes on until more than n bytes are ready, or else up to the end or an error.
func (m *Machine) produce(n int) {
steps:
	for !m.isOver() {
		if m.next == nil {
			m.fault = m.begin()
		}
		for m.next != nil {
			if m.fault != api.OK || len(m.ready) > n {
				break steps
			}
			m.fault = m.next(m)
		}
	}
}

// produced returns the number of all bytes of the text so far.
func (m *Machine) produced() int {
	return m.out + len(m.ready)
}

// room returns how many bytes may yet be produced.
func (m *Machine) room() int {
	return api.MaxText - m.produced()
}

// begin reads the header of the next block.
func (m *Machine) begin() api.Errno {
	start := Start{Bit: m.reader.At(), Out: m.produced()}
	h, e := block.Read(m.reader)
	if e != api.OK {
		return e
	}
	m.starts = append(m.starts, start)
	m.final = h.Final
	if h.Kind == api.Stored {
		m.size, m.next = h.Size, (*Machine).stored
		return api.OK
	}
	// There are codes of these lengths: block.Read has checked it.
	m.lits, _ = prefix.New(h.Lits)
	m.dists, _ = prefix.New(h.Dists)
	m.next = (*Machine).symbol
	return api.OK
}

// stored produces the bytes of a Stored block.
func (m *Machine) stored() api.Errno {
	there := min(m.size, m.reader.Left()/8)
	room := m.room()
	// The reader stands at a byte boundary and has these bytes, so there is no error.
	s, _ := m.reader.Bytes(min(there, room))
	m.window.Put(s)
	m.ready = append(m.ready, s...)
	switch {
	case there > room:
		return api.ErrBig
	case there < m.size:
		return api.ErrShort
	}
	m.next = nil
	return api.OK
}

// symbol produces what the next symbol of a Fixed or Dynamic block stands for.
func (m *Machine) symbol() api.Errno {
	symbol, e := m.lits.Read(m.reader)
	switch {
	case e != api.OK:
		return e
	case symbol > endOfBlock:
		return m.copied(symbol)
	case symbol == endOfBlock:
		m.next = nil
		return api.OK
	case m.room() == 0:
		return api.ErrBig
	}
	m.window.Put(string([]byte{byte(symbol)}))
	m.ready = append(m.ready, byte(symbol))
	return api.OK
}

// copied produces the copy that begins with this symbol, as far as there is room.
func (m *Machine) copied(symbol int) api.Errno {
	n, e := number(m.reader, spans.Length, symbol)
	if e != api.OK {
		return e
	}
	symbol, e = m.dists.Read(m.reader)
	if e != api.OK {
		return e
	}
	dist, e := number(m.reader, spans.Dist, symbol)
	if e != api.OK {
		return e
	}
	room := m.room()
	s, e := m.window.Copy(dist, min(n, room))
	if e != api.OK {
		return e
	}
	m.ready = append(m.ready, s...)
	if n > room {
		return api.ErrBig
	}
	return api.OK
}

// number returns the number that a symbol and the extra bits after it represent.
func number(r *bitrow.Reader, of func(int) (int, int, bool), symbol int) (int, api.Errno) {
	base, bits, ok := of(symbol)
	if !ok {
		return 0, api.ErrCode
	}
	extra, e := r.Bits(bits)
	if e != api.OK {
		return 0, e
	}
	return base + extra, api.OK
}
