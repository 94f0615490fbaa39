package store

import (
	"math"
	"slices"
	"strings"
	"testing"

	"dayspring/api"
	"dayspring/disk"
)

func TestMarks(t *testing.T) {
	marks := 0
	for b := range 256 {
		m, marked := markOf(byte(b))
		if !marked {
			continue
		}
		marks++
		if m.code() != byte(b) || m.side < 0 || m.side >= sides || m.inputs < 0 || m.inputs > maxInputs {
			t.Errorf("the byte %d is %+v, of which the byte is %d", b, m, m.code())
		}
	}
	if marks != sides*(maxInputs+1) {
		t.Errorf("%d marks", marks)
	}
	if _, marked := markOf(0); marked {
		t.Error("a disk on which nobody has written has a mark")
	}
}

func TestNumbers(t *testing.T) {
	for _, n := range []int64{0, 1, -1, 255, 256, 0x0102030405060708, math.MaxInt64, math.MinInt64} {
		b := AppendNumber([]byte("ab"), n)
		if len(b) != 2+NumberSize || string(b[:2]) != "ab" || Number(b[2:]) != n {
			t.Errorf("%d is %v, which is %d", n, b, Number(b[2:]))
		}
	}
}

func TestTheSmallestDiskHasRoom(t *testing.T) {
	if inputsAt+inputSectors > api.MinSectors {
		t.Errorf("%d sectors are needed", inputsAt+inputSectors)
	}
	if maxInputs > inputSectors*perSector {
		t.Errorf("%d inputs have no room", maxInputs)
	}
}

func newStore(t *testing.T) (*disk.Disk, *Store) {
	t.Helper()
	d, _ := disk.New(api.MinSectors)
	s, e := Found(d, []byte("first"))
	if e != api.OK {
		t.Fatalf("Found = %d", e)
	}
	return d, s
}

// wantFound looks at what counts, once the power has failed.
func wantFound(t *testing.T, d *disk.Disk, picture string, inputs ...int64) {
	t.Helper()
	d.Restart()
	s, e := Find(d)
	if e != api.OK {
		t.Fatalf("Find = %d", e)
	}
	want := picture + strings.Repeat("\x00", PictureSize-len(picture))
	if got := s.Picture(); string(got) != want {
		t.Errorf("the picture is %q, want %q", got, picture)
	}
	if got := s.Inputs(); !slices.Equal(got, inputs) {
		t.Errorf("the inputs are %v, want %v", got, inputs)
	}
}

func TestAddAndRedraw(t *testing.T) {
	d, s := newStore(t)
	wantFound(t, d, "first")
	var inputs []int64
	for room := maxInputs; room > 0; room = s.Room() {
		if room != maxInputs-len(inputs) {
			t.Fatalf("there is room for %d, behind %d", room, len(inputs))
		}
		var more []int64
		for i := range min(room, 1+len(inputs)/3) {
			more = append(more, int64(i)<<40-int64(room))
		}
		if e := s.Add(more); e != api.OK {
			t.Fatalf("Add = %d", e)
		}
		inputs = append(inputs, more...)
		wantFound(t, d, "first", inputs...)
	}
	longest := strings.Repeat("longest!", PictureSize/8)
	for _, picture := range []string{"second", longest, "third", ""} {
		if e := s.Redraw([]byte(picture)); e != api.OK || s.Room() != maxInputs {
			t.Fatalf("Redraw = %d, with room for %d", e, s.Room())
		}
		if picture != "" {
			wantFound(t, d, picture)
		}
		s.Add([]int64{5, 6})
		s.Add(nil)
		if picture != "" {
			wantFound(t, d, picture, 5, 6)
		}
	}
}

// Whoever finds has no claim yet: only the Claim takes the disk.
func TestClaims(t *testing.T) {
	d, a := newStore(t)
	b, _ := Find(d)
	if !a.Holds() || b.Holds() {
		t.Error("Find takes the disk")
	}
	b.Claim()
	if a.Holds() || !b.Holds() {
		t.Error("Claim does not take the disk")
	}
	d.Restart()
	if a.Holds() || b.Holds() {
		t.Error("a restart leaves the disk to one of them")
	}
}
