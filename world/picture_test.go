package world

import (
	"math"
	"strings"
	"testing"

	"dayspring/api"
	"dayspring/script"
	"dayspring/store"
)

func fullest() *World {
	var cells [api.Cells]int64
	for n := range cells {
		cells[n] = math.MinInt64 + int64(n)
	}
	var texts [api.Texts]string
	for n := range texts {
		texts[n] = strings.Repeat(string([]byte{byte(255 - n)}), api.MaxText)
	}
	return &World{
		script: strings.Repeat("\x01\xff", api.MaxScript/2),
		memory: script.MemoryOf(cells, texts),
		deeds:  mostDeeds,
	}
}

func same(a, b *World) bool {
	return string(a.picture()) == string(b.picture()) && a.script == b.script && a.deeds == b.deeds
}

func TestPictures(t *testing.T) {
	short := &World{script: "\x00", memory: script.NewMemory(), deeds: 3}
	short.memory.Run("\x01\x07\x12\x03\x01\x41\x15\x02", 0)
	for _, w := range []*World{fullest(), short, {memory: script.NewMemory()}} {
		p := w.picture()
		if len(p) > store.PictureSize {
			t.Fatalf("a picture has %d bytes", len(p))
		}
		p = append(p, make([]byte, store.PictureSize-len(p))...)
		got, right := pictured(p)
		if !right || !same(got, w) {
			t.Errorf("the picture of %+v is one of %+v, %t", w, got, right)
		}
	}
}

func TestPicturesOfNoWorld(t *testing.T) {
	const (
		deedsEnd = 7
		textAt   = 8 + 8*api.Cells
		scriptAt = textAt + api.Texts*(1+api.MaxText)
	)
	for _, c := range []struct {
		what string
		at   int
		to   byte
	}{
		{"deeds below 0", deedsEnd, 0x80},
		{"too many deeds", deedsEnd, 0x7f},
		{"a text that is too long", textAt, api.MaxText + 1},
		{"the last text is too long", textAt + 3*(1+api.MaxText), 255},
		{"a script that is too long", scriptAt, api.MaxScript + 1},
		{"a script that is cut off", scriptAt, api.MaxScript - 1},
		{"a script that is not right", scriptAt + 1, 25},
	} {
		p := fullest().picture()
		p[c.at] = c.to
		if w, right := pictured(p); right {
			t.Errorf("%s: %+v", c.what, w)
		}
	}
}
