// Package world: a world that scripts move on, on a disk.
package world

import (
	"strings"

	"dayspring/api"
	"dayspring/disk"
	"dayspring/script"
)

// World has a script, and the memory that its runs change. The zero one has no disk.
type World struct {
	disk   *disk.Disk
	claim  int
	script string
	memory script.Memory
	deeds  int
}

// Found gives a new world on a disk.
func Found(d *disk.Disk) (*World, api.Errno) {
	if d.Sync() != api.OK {
		return nil, api.ErrPower
	}
	return &World{disk: d, claim: d.Claim(), memory: script.NewMemory()}, api.OK
}

// holds tells whether the disk is still this world's. Once it is not, it never is again:
// a disk that has lost its power gets it back by a restart alone.
func (w *World) holds() bool { return w.disk != nil && w.disk.Holds(w.claim) }

// Load gives the world a script.
func (w *World) Load(text string) api.Errno {
	if script.Check(text) != api.OK {
		return api.ErrScript
	}
	if !w.holds() {
		return api.ErrDisk
	}
	w.script = strings.Clone(text)
	w.deeds++
	return api.OK
}

// Tick runs the script.
func (w *World) Tick(input int64) (api.Told, api.Errno) {
	if !w.holds() {
		return api.Told{}, api.ErrDisk
	}
	w.deeds++
	return w.memory.Run(w.script, input), api.OK
}

// Save syncs the disk. Deeds are not written there yet.
func (w *World) Save() api.Errno {
	if !w.holds() || w.disk.Sync() != api.OK {
		return api.ErrDisk
	}
	return api.OK
}

// Cell tells what a cell holds.
func (w *World) Cell(n int) (int64, api.Errno) { return w.memory.Cell(n) }

// Text tells what a text holds.
func (w *World) Text(n int) (string, api.Errno) { return w.memory.Text(n) }

// Deeds tells how many there were.
func (w *World) Deeds() int { return w.deeds }
