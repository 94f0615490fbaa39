// Package disk: sectors of bytes that may lose their power, and with it what was written last.
package disk

import "dayspring/api"

const (
	maskBits  = 16 // a mask has no more: the writes take them in turn
	tearShare = 16 // a tear that is greater by so much leaves a byte more
)

type sector [api.Sector]byte

// write is one that was made and is not yet synced.
type write struct {
	at   int
	data sector
}

// fuse is a power failure that lies ahead.
type fuse struct {
	left int // deeds that are still done ahead of it
	mask int
	tear int
}

// Disk has sectors. The zero one has none, and no power.
type Disk struct {
	safe     []sector // what stays whatever comes
	now      []sector // what is read
	unsynced []write
	fuse     *fuse // nil, if none lies ahead
	on       bool
	writes   int
	claim    int // the last one; a restart counts as one that nobody has
}

// New gives a disk that has power, all of its bytes 0.
func New(sectors int) (*Disk, api.Errno) {
	if sectors < api.MinSectors || sectors > api.MaxSectors {
		return nil, api.ErrSectors
	}
	return &Disk{safe: make([]sector, sectors), now: make([]sector, sectors), on: true}, api.OK
}

// Write writes a sector; it is unsynced till a Sync.
func (d *Disk) Write(at int, data string) api.Errno {
	if !d.has(at) {
		return api.ErrSector
	}
	if len(data) != api.Sector {
		return api.ErrData
	}
	if !d.spend() {
		return api.ErrPower
	}
	w := write{at: at}
	copy(w.data[:], data)
	d.unsynced = append(d.unsynced, w)
	d.now[at] = w.data
	d.writes++
	return api.OK
}

// Read gives a sector's bytes, with what was written last.
func (d *Disk) Read(at int) (string, api.Errno) {
	if !d.has(at) {
		return "", api.ErrSector
	}
	if !d.on {
		return "", api.ErrPower
	}
	return string(d.now[at][:]), api.OK
}

// Sync makes all that was written stay.
func (d *Disk) Sync() api.Errno {
	if !d.spend() {
		return api.ErrPower
	}
	for _, w := range d.unsynced {
		d.safe[w.at] = w.data
	}
	d.unsynced = nil
	return api.OK
}

// Fuse lets the power fail by the Write or Sync that comes behind so many others.
func (d *Disk) Fuse(deeds int, mask int, tear int) {
	if !d.on {
		return
	}
	d.fuse = &fuse{left: max(deeds, 0), mask: mask, tear: max(tear, 0)}
}

// Restart gives power. A disk that has it loses it first, with all that is unsynced.
func (d *Disk) Restart() {
	if d.on {
		d.fail(0, 0)
	}
	d.on = true
	d.claim++
}

// Claim gives the disk to who asks for it, and takes it from who had it before.
func (d *Disk) Claim() int {
	d.claim++
	return d.claim
}

// Holds tells whether the disk has had power all the time since that claim, without a
// restart, and nobody else has claimed it.
func (d *Disk) Holds(claim int) bool { return d.on && d.claim == claim }

// On tells whether the disk has power.
func (d *Disk) On() bool { return d.on }

// Writes tells how many writes were OK.
func (d *Disk) Writes() int { return d.writes }

func (d *Disk) has(at int) bool { return at >= 0 && at < len(d.now) }

// spend tells whether the next Write or Sync is done, and burns the fuse down by it.
// A disk without power has no fuse.
func (d *Disk) spend() bool {
	if d.fuse == nil {
		return d.on
	}
	if d.fuse.left == 0 {
		d.fail(d.fuse.mask, d.fuse.tear)
		return false
	}
	d.fuse.left--
	return true
}

// fail takes the power away; of the unsynced writes only what lasts comes to its sector.
func (d *Disk) fail(mask int, tear int) {
	count := len(d.unsynced)
	for i, w := range d.unsynced {
		copy(d.safe[w.at][:], w.data[:lasting(i, count, mask, tear)])
	}
	copy(d.now, d.safe)
	d.unsynced = nil
	d.fuse = nil
	d.on = false
}

// lasting tells how many bytes of the write i, of count unsynced ones, outlast a power failure.
func lasting(i int, count int, mask int, tear int) int {
	if i == tear%count {
		return min(tear/tearShare, api.Sector)
	}
	if mask>>(i%maskBits)&1 == 1 {
		return api.Sector
	}
	return 0
}
