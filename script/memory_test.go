package script

import (
	"testing"

	"dayspring/api"
)

// No answer shows what stands in the maps of what was touched: so they are looked at here.
func TestWhatIsAsItWasIsNotTouched(t *testing.T) {
	r := newRow[int64](3)
	for _, c := range []struct {
		n       int
		value   int64
		touched int
	}{{1, 5, 1}, {1, 6, 1}, {2, 0, 1}, {2, 4, 2}, {1, 0, 1}, {2, 0, 0}, {0, 1, 1}, {0, 2, 1}} {
		r.set(c.n, c.value)
		if len(r.was) != c.touched || r.now[c.n] != c.value {
			t.Errorf("%+v: now %v, was %v", c, r.now, r.was)
		}
	}
	r.undo()
	for n, value := range r.now {
		if value != 0 {
			t.Errorf("the thing %d is %d", n, value)
		}
	}
}

func TestNothingIsTouchedWhenTheRunHasEnded(t *testing.T) {
	m := NewMemory()
	change := string([]byte{api.Push, 5, api.Store, 1, api.Push, 65, api.Put, 2})
	for i, script := range []string{change, change + string([]byte{api.Drop}), change} {
		m.Run(script, 0)
		if len(m.cells.was) != 0 || len(m.texts.was) != 0 {
			t.Errorf("run %d: %v, %v", i, m.cells.was, m.texts.was)
		}
	}
	if s, e := m.Text(2); s != "AA" || e != api.OK {
		t.Errorf("Text(2) = %q, %d", s, e)
	}
}
