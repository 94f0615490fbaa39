// Package dayspring: a world that scripts move on, and that comes back as it was: see DOC.md.
package dayspring

import (
	"dayspring/api"
	"dayspring/disk"
	"dayspring/script"
	"dayspring/world"
)

// Disk has sectors.
type Disk struct {
	inner *disk.Disk
}

// NewDisk gives a disk (P3).
func NewDisk(sectors int) (*Disk, api.Errno) {
	inner, e := disk.New(sectors)
	if e != api.OK {
		return nil, e
	}
	return &Disk{inner: inner}, api.OK
}

// inside stands in for a disk that NewDisk did not give, so that no call on it panics:
// it has no sectors and no power.
func (d *Disk) inside() *disk.Disk {
	if d == nil || d.inner == nil {
		return &disk.Disk{}
	}
	return d.inner
}

// Write writes a sector (P3).
func (d *Disk) Write(sector int, data string) api.Errno { return d.inside().Write(sector, data) }

// Read reads a sector (P3).
func (d *Disk) Read(sector int) (string, api.Errno) { return d.inside().Read(sector) }

// Sync makes all that was written last (P3).
func (d *Disk) Sync() api.Errno { return d.inside().Sync() }

// Fuse lets the power fail (P4).
func (d *Disk) Fuse(deeds int, mask int, tear int) { d.inside().Fuse(deeds, mask, tear) }

// Restart gives power (P4).
func (d *Disk) Restart() { d.inside().Restart() }

// On tells whether it has power (P4).
func (d *Disk) On() bool { return d.inside().On() }

// Writes tells how many there were (P3).
func (d *Disk) Writes() int { return d.inside().Writes() }

// Check looks at a script (P5).
func Check(text string) api.Errno { return script.Check(text) }

// World is one.
type World struct {
	inner *world.World
}

// Found founds a world on a disk (P6).
func Found(d *Disk) (*World, api.Errno) {
	inner, e := world.Found(d.inside())
	if e != api.OK {
		return nil, e
	}
	return &World{inner: inner}, api.OK
}

// Return gives the world that is on a disk (P8).
func Return(d *Disk) (*World, api.Errno) {
	inner, e := world.Return(d.inside())
	if e != api.OK {
		return nil, e
	}
	return &World{inner: inner}, api.OK
}

// inside stands in for a world that neither Found nor Return gave, so that no call on it panics:
// it has no disk, no cells and no texts.
func (w *World) inside() *world.World {
	if w == nil || w.inner == nil {
		return &world.World{}
	}
	return w.inner
}

// Load gives a world a script (P6).
func (w *World) Load(script string) api.Errno { return w.inside().Load(script) }

// Tick runs the script (P6).
func (w *World) Tick(input int64) (api.Told, api.Errno) { return w.inside().Tick(input) }

// Save makes all deeds safe (P6).
func (w *World) Save() api.Errno { return w.inside().Save() }

// Cell tells what a cell holds (P7).
func (w *World) Cell(n int) (int64, api.Errno) { return w.inside().Cell(n) }

// Text tells what a text holds (P7).
func (w *World) Text(n int) (string, api.Errno) { return w.inside().Text(n) }

// Deeds tells how many there were (P7).
func (w *World) Deeds() int { return w.inside().Deeds() }
