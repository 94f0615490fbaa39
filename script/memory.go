package script

import "dayspring/api"

// row has things of one kind. Those that a run has touched stand in was, with what they
// held ahead of it.
type row[T comparable] struct {
	now []T
	was map[int]T
}

func newRow[T comparable](count int) row[T] {
	return row[T]{now: make([]T, count), was: map[int]T{}}
}

func (r *row[T]) has(n int) bool { return n >= 0 && n < len(r.now) }

// set changes a thing, and writes down how it can be undone.
func (r *row[T]) set(n int, value T) {
	old, touched := r.was[n]
	if !touched {
		old = r.now[n]
		r.was[n] = old
	}
	r.now[n] = value
	if value == old {
		delete(r.was, n) // nothing is left to undo
	}
}

func (r *row[T]) undo() {
	for n, old := range r.was {
		r.now[n] = old
	}
}

// words is what a text holds. The bytes behind its size are 0, so that texts are the same
// when they are equal.
type words struct {
	bytes [api.MaxText]byte
	size  int
}

// with gives the text with a byte more. It must have room for it.
func (w words) with(b byte) words {
	w.bytes[w.size] = b
	w.size++
	return w
}

// Memory has the cells and texts that runs change. The zero one has none.
type Memory struct {
	cells row[int64]
	texts row[words]
}

// NewMemory gives cells that are 0 and texts that are empty.
func NewMemory() Memory {
	return Memory{cells: newRow[int64](api.Cells), texts: newRow[words](api.Texts)}
}

// MemoryOf gives a memory that holds this. A text must have room for its bytes.
func MemoryOf(cells [api.Cells]int64, texts [api.Texts]string) Memory {
	m := NewMemory()
	copy(m.cells.now, cells[:])
	for n, text := range texts {
		t := &m.texts.now[n]
		t.size = copy(t.bytes[:], text)
	}
	return m
}

// Cell tells what a cell holds.
func (m *Memory) Cell(n int) (int64, api.Errno) {
	if !m.cells.has(n) {
		return 0, api.ErrCell
	}
	return m.cells.now[n], api.OK
}

// Text tells what a text holds.
func (m *Memory) Text(n int) (string, api.Errno) {
	if !m.texts.has(n) {
		return "", api.ErrCell
	}
	t := m.texts.now[n]
	return string(t.bytes[:t.size]), api.OK
}

// Run runs a script, which must be right. A run that traps leaves the memory as it was.
func (m *Memory) Run(script string, input int64) api.Told {
	well := false
	defer func() {
		if !well {
			m.undo()
		}
		m.forget()
	}()
	r := &run{memory: m, script: script, input: input}
	if trap := r.toEnd(); trap != none {
		return api.Told{Trap: trap}
	}
	well = true
	return api.Told{Out: r.out}
}

func (m *Memory) undo() {
	m.cells.undo()
	m.texts.undo()
}

// forget makes what the run has changed stay.
func (m *Memory) forget() {
	clear(m.cells.was)
	clear(m.texts.was)
}
