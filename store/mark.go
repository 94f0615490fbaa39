package store

const (
	sideBit   = 128         // the highest of a mark's byte; the others are the inputs and 1 more
	maxInputs = sideBit - 2 // so that a mark with all of them has room in those bits
)

// mark tells what counts.
type mark struct {
	side   int // which picture
	inputs int // how many
}

// code gives the mark's byte.
func (m mark) code() byte { return byte(m.side*sideBit + m.inputs + 1) }

// markOf reads a byte. On a disk on which nobody has written it is 0, and no mark.
func markOf(b byte) (mark, bool) {
	m := mark{side: int(b) / sideBit, inputs: int(b)%sideBit - 1}
	return m, m.inputs >= 0
}
