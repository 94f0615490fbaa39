package world

import (
	"dayspring/api"
	"dayspring/script"
	"dayspring/store"
)

// mostDeeds leaves more deeds to count than can ever be done: what others have written is
// no picture of a world whose deeds would run over.
const mostDeeds = 1 << 62

// picture gives all that a world holds: its deeds, cells, texts and script.
func (w *World) picture() []byte {
	b := make([]byte, 0, store.PictureSize)
	b = store.AppendNumber(b, int64(w.deeds))
	for n := range api.Cells {
		cell, _ := w.memory.Cell(n)
		b = store.AppendNumber(b, cell)
	}
	for n := range api.Texts {
		text, _ := w.memory.Text(n)
		b = appendText(b, text, api.MaxText)
	}
	return appendText(b, w.script, api.MaxScript)
}

// appendText lays a text's size and its bytes behind others, and fills its room up.
func appendText(b []byte, text string, room int) []byte {
	b = append(b, byte(len(text)))
	b = append(b, text...)
	return append(b, make([]byte, room-len(text))...)
}

// pictured gives the world of a picture, without a store; false, if it is a picture of none.
func pictured(picture []byte) (*World, bool) {
	r := &reader{left: picture, right: true}
	w := &World{deeds: r.deeds()}
	var cells [api.Cells]int64
	for n := range cells {
		cells[n] = r.number()
	}
	var texts [api.Texts]string
	for n := range texts {
		texts[n] = r.text(api.MaxText)
	}
	w.memory = script.MemoryOf(cells, texts)
	w.script = r.text(api.MaxScript)
	return w, r.right && script.Check(w.script) == api.OK
}

// reader reads a picture.
type reader struct {
	left  []byte // what is still to be read
	right bool   // whether all of it may stand there
}

func (r *reader) take(size int) []byte {
	bytes := r.left[:size]
	r.left = r.left[size:]
	return bytes
}

func (r *reader) number() int64 { return store.Number(r.take(store.NumberSize)) }

func (r *reader) deeds() int {
	n := r.number()
	if n < 0 || n > mostDeeds {
		r.right = false
	}
	return int(n)
}

func (r *reader) text(room int) string {
	size := int(r.take(1)[0])
	bytes := r.take(room)
	if size > room {
		r.right = false
		return ""
	}
	return string(bytes[:size])
}
