// Package world: a world that scripts move on, on a disk.
package world

import (
	"strings"

	"dayspring/api"
	"dayspring/disk"
	"dayspring/script"
	"dayspring/store"
)

// World has a script, and the memory that its runs change. The zero one has no disk.
type World struct {
	store  *store.Store
	script string
	memory script.Memory
	deeds  int
	news   []int64 // the inputs of the ticks since the last Save
	redraw bool    // whether the next Save needs a picture, as news do not tell all
}

// Found gives a new world on a disk.
func Found(d *disk.Disk) (*World, api.Errno) {
	w := &World{memory: script.NewMemory()}
	s, e := store.Found(d, w.picture())
	if e != api.OK {
		return nil, e
	}
	w.store = s
	return w, api.OK
}

// Return gives the world that is on a disk.
func Return(d *disk.Disk) (*World, api.Errno) {
	s, e := store.Find(d)
	if e != api.OK {
		return nil, e
	}
	w, right := pictured(s.Picture())
	if !right {
		return nil, api.ErrNone
	}
	for _, input := range s.Inputs() {
		w.run(input)
	}
	s.Claim()
	w.store = s
	return w, api.OK
}

func (w *World) holds() bool { return w.store != nil && w.store.Holds() }

// Load gives the world a script.
func (w *World) Load(text string) api.Errno {
	if script.Check(text) != api.OK {
		return api.ErrScript
	}
	if !w.holds() {
		return api.ErrDisk
	}
	w.script = strings.Clone(text)
	w.deeds++
	w.redraw = true
	return api.OK
}

// Tick runs the script.
func (w *World) Tick(input int64) (api.Told, api.Errno) {
	if !w.holds() {
		return api.Told{}, api.ErrDisk
	}
	w.note(input)
	return w.run(input), api.OK
}

func (w *World) run(input int64) api.Told {
	w.deeds++
	return w.memory.Run(w.script, input)
}

// note keeps an input for the next Save, unless that needs a picture, or comes to need one
// as the disk has no room for the input.
func (w *World) note(input int64) {
	w.redraw = w.redraw || len(w.news) == w.store.Room()
	if !w.redraw {
		w.news = append(w.news, input)
	}
}

// Save makes all deeds safe.
func (w *World) Save() api.Errno {
	if !w.holds() || w.keep() != api.OK {
		return api.ErrDisk
	}
	w.news = nil
	w.redraw = false
	return api.OK
}

func (w *World) keep() api.Errno {
	if w.redraw {
		return w.store.Redraw(w.picture())
	}
	return w.store.Add(w.news)
}

// Cell tells what a cell holds.
func (w *World) Cell(n int) (int64, api.Errno) { return w.memory.Cell(n) }

// Text tells what a text holds.
func (w *World) Text(n int) (string, api.Errno) { return w.memory.Text(n) }

// Deeds tells how many there were.
func (w *World) Deeds() int { return w.deeds }
