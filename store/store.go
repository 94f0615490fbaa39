// Package store: what a world has on its disk: a picture of it, and the inputs of the ticks
// that came behind the picture.
//
// There is room for two pictures. One byte, the mark, tells which of them counts, and how
// many inputs do. Power that fails leaves a byte as it was or as it was to be, so the mark
// alone tells what is whole, whatever bytes a world holds: what it is to tell of is synced
// ahead of it, and nothing that it tells of is changed as long as it does.
package store

import (
	"dayspring/api"
	"dayspring/disk"
)

// PictureSize is how many bytes a picture may have.
const PictureSize = pictureSectors * api.Sector

const (
	markAt         = 0 // the sectors at which things begin
	picturesAt     = 1
	inputsAt       = picturesAt + sides*pictureSectors
	sides          = 2
	pictureSectors = 7
	inputSectors   = 16
	perSector      = api.Sector / NumberSize // inputs
)

// Store is what counts on a disk.
type Store struct {
	disk  *disk.Disk
	claim int
	mark  mark
}

// Found lays a picture on a disk, in the place of whatever counts there.
func Found(d *disk.Disk, picture []byte) (*Store, api.Errno) {
	old, _ := markOn(d)
	s := &Store{disk: d, mark: old}
	if e := s.Redraw(picture); e != api.OK {
		return nil, e
	}
	s.Claim()
	return s, api.OK
}

// Find tells what counts on a disk, and makes it safe. Whose it is stays as it was till
// the Claim.
func Find(d *disk.Disk) (*Store, api.Errno) {
	if d.Sync() != api.OK {
		return nil, api.ErrPower
	}
	m, marked := markOn(d)
	if !marked {
		return nil, api.ErrNone
	}
	return &Store{disk: d, mark: m}, api.OK
}

// markOn reads a disk's mark. A disk that cannot be read has none.
func markOn(d *disk.Disk) (mark, bool) {
	text, e := d.Read(markAt)
	if e != api.OK {
		return mark{}, false
	}
	return markOf(text[0])
}

// Claim takes the disk from who had it before.
func (s *Store) Claim() { s.claim = s.disk.Claim() }

// Holds tells whether the disk is still the one that was claimed. Once it is not, it never
// is again: a disk that has lost its power gets it back by a restart alone.
func (s *Store) Holds() bool { return s.disk.Holds(s.claim) }

// Picture gives the picture that counts; what it left of its room is 0.
func (s *Store) Picture() []byte {
	return s.read(pictureAt(s.mark.side), pictureSectors)
}

// Inputs gives the inputs that count.
func (s *Store) Inputs() []int64 {
	bytes := s.read(inputsAt, inputSectors)
	list := make([]int64, s.mark.inputs)
	for i := range list {
		list[i] = Number(bytes[i*NumberSize:])
	}
	return list
}

// Room tells how many inputs may be added.
func (s *Store) Room() int { return maxInputs - s.mark.inputs }

// Redraw lets a picture count, and none of the inputs that counted.
func (s *Store) Redraw(picture []byte) api.Errno {
	side := 1 - s.mark.side
	if e := s.write(pictureAt(side), picture); e != api.OK {
		return e
	}
	return s.remark(mark{side: side})
}

// Add lets more inputs count. There must be room for them.
func (s *Store) Add(inputs []int64) api.Errno {
	if len(inputs) == 0 {
		return s.sync()
	}
	at := inputsAt + s.mark.inputs/perSector
	// What counts already is written as it stands there, so that a torn write leaves it so.
	bytes := s.read(at, 1)[:s.mark.inputs%perSector*NumberSize]
	for _, n := range inputs {
		bytes = AppendNumber(bytes, n)
	}
	if e := s.write(at, bytes); e != api.OK {
		return e
	}
	return s.remark(mark{side: s.mark.side, inputs: s.mark.inputs + len(inputs)})
}

// remark lets a mark count, once all that it tells of is safe.
func (s *Store) remark(m mark) api.Errno {
	if e := s.sync(); e != api.OK {
		return e
	}
	if e := s.write(markAt, []byte{m.code()}); e != api.OK {
		return e
	}
	s.mark = m
	return s.sync()
}

func pictureAt(side int) int { return picturesAt + side*pictureSectors }

// read reads so many sectors. The disk must have power.
func (s *Store) read(at int, sectors int) []byte {
	bytes := make([]byte, sectors*api.Sector)
	for i := range sectors {
		text, _ := s.disk.Read(at + i)
		copy(bytes[i*api.Sector:], text)
	}
	return bytes
}

// write writes as many sectors as the bytes need; what they leave of the last one is 0.
func (s *Store) write(at int, bytes []byte) api.Errno {
	for ; len(bytes) > 0; at++ {
		var sector [api.Sector]byte
		bytes = bytes[copy(sector[:], bytes):]
		if s.disk.Write(at, string(sector[:])) != api.OK {
			return api.ErrPower
		}
	}
	return api.OK
}

func (s *Store) sync() api.Errno { return s.disk.Sync() }
