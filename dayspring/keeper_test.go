package dayspring_test

import (
	"slices"
	"testing"

	"dayspring/api"
	"dayspring/dayspring"
)

// life is a plain telling of a world's deeds: what it held behind each of them, and how
// many are safe.
type life struct {
	states []model // the first one is the new world
	safe   int
}

func newLife() *life { return &life{states: make([]model, 1)} }

func (l *life) now() *model { return &l.states[len(l.states)-1] }

// next gives the state of one deed more, which is as the last one at first.
func (l *life) next() *model {
	l.states = append(l.states, *l.now())
	return l.now()
}

func (l *life) save() { l.safe = len(l.states) - 1 }

func isModel(w *dayspring.World, m *model) bool {
	same := w.Deeds() == m.deeds
	for i, want := range m.cells {
		n, e := w.Cell(i)
		same = same && n == want && e == api.OK
	}
	for i, want := range m.texts {
		s, e := w.Text(i)
		same = same && s == want && e == api.OK
	}
	return same
}

// comesBack tells whether a world is this one behind some of its deeds, all safe ones
// among them. (That it has the script is seen by its next tick.)
func (l *life) comesBack(w *dayspring.World) bool {
	k := w.Deeds()
	return k >= l.safe && k < len(l.states) && isModel(w, &l.states[k])
}

// keeper moves a world on and tells its lives, while the power may fail at any call.
type keeper struct {
	t    *testing.T
	at   string // what is tried, for messages
	d    *dayspring.Disk
	w    *dayspring.World
	now  *life   // of w
	may  []*life // the worlds to which a Return may come
	none bool    // whether a Return may find none
}

func newKeeper(t *testing.T, sectors int) *keeper {
	t.Helper()
	return &keeper{t: t, d: newDisk(t, sectors), none: true}
}

func (k *keeper) fail(format string, args ...any) {
	k.t.Helper()
	k.t.Fatalf(k.at+": "+format, args...)
}

// want looks at an error: as long as there is power there is none.
func (k *keeper) want(what string, e, without api.Errno) bool {
	k.t.Helper()
	if (e == api.OK) != k.d.On() || e != api.OK && e != without {
		k.fail("%s = %d, on: %t", what, e, k.d.On())
	}
	return e == api.OK
}

func (k *keeper) found() bool {
	k.t.Helper()
	w, e := dayspring.Found(k.d)
	if (w == nil) != (e != api.OK) {
		k.fail("Found = %v, %d", w, e)
	}
	l := newLife()
	if !k.want("Found", e, api.ErrPower) {
		k.may = append(k.may, l)
		return false
	}
	if !l.comesBack(w) {
		k.fail("Found: %d deeds", w.Deeds())
	}
	k.w, k.now, k.may, k.none = w, l, []*life{l}, false
	return true
}

func (k *keeper) load(script string) bool {
	k.t.Helper()
	ok := k.want("Load", k.w.Load(script), api.ErrDisk)
	if ok {
		k.now.next().load(script)
	}
	return ok
}

func (k *keeper) tick(input int64) bool {
	k.t.Helper()
	told, e := k.w.Tick(input)
	ok := k.want("Tick", e, api.ErrDisk)
	if ok {
		if want := k.now.next().tick(input); !sameTold(told, want) {
			k.fail("Tick(%d) = %+v, want %+v", input, told, want)
		}
	}
	return ok
}

func (k *keeper) ticks(inputs ...int64) bool {
	k.t.Helper()
	for _, n := range inputs {
		if !k.tick(n) {
			return false
		}
	}
	return true
}

func (k *keeper) save() bool {
	k.t.Helper()
	ok := k.want("Save", k.w.Save(), api.ErrDisk)
	if ok {
		k.now.save()
	}
	return ok
}

func (k *keeper) saveAll(inputs ...int64) bool {
	k.t.Helper()
	return k.ticks(inputs...) && k.save()
}

// back returns: to one of the worlds that may be there, which is then the only one.
func (k *keeper) back() bool {
	k.t.Helper()
	w, e := dayspring.Return(k.d)
	if (w == nil) != (e != api.OK) {
		k.fail("Return = %v, %d", w, e)
	}
	if e == api.ErrNone && k.d.On() && k.none {
		k.may = nil // nor does any of them come back from now on
		return false
	}
	if !k.want("Return", e, api.ErrPower) {
		return false
	}
	i := slices.IndexFunc(k.may, func(l *life) bool { return l.comesBack(w) })
	if i < 0 {
		k.fail("Return comes to %d deeds; last it was %+v, %d of them safe", w.Deeds(), *k.may[0].now(), k.may[0].safe)
	}
	k.now = k.may[i]
	k.now.states = k.now.states[:w.Deeds()+1]
	k.now.save()
	k.w, k.may, k.none = w, []*life{k.now}, false
	return true
}

// goOn gives power and returns, till that is OK; it founds a world, if there is none.
func (k *keeper) goOn() {
	k.t.Helper()
	k.d.Restart()
	if !k.back() && !k.found() {
		k.fail("neither Return nor Found is OK")
	}
}

// prove does deeds on the world that came back, and looks whether they come back, too:
// nothing of what was lost is among them.
func (k *keeper) prove() {
	k.t.Helper()
	k.tick(-77)
	k.goOn()
	k.saveAll(11, 12)
	k.tick(13)
	k.goOn()
	k.load(mixing)
	k.saveAll(14)
	k.saveAll(15)
	k.goOn()
	if k.now.safe != k.w.Deeds() || k.now.safe < 4 {
		k.fail("%d deeds", k.w.Deeds())
	}
}

// mixing: what the cells and texts hold tells the inputs and their order. What is told is
// the cell 0.
var mixing = code(api.Load, 0, api.Push, 31, api.Mul, api.Input, api.Add, api.Push, 1, api.Add,
	api.Dup, api.Store, 0, api.Dup, api.Out,
	api.Load, 1, api.Load, 0, api.Sub, api.Store, 15,
	api.Input, api.Store, 1,
	api.Len, 2, api.Push, 24, api.Less, api.Zero, 36, api.Put, 2, api.Jump, 39,
	api.Wipe, 2, api.Drop)

func countUp(from, count int) []int64 {
	list := make([]int64, count)
	for i := range list {
		list[i] = int64(from + i)
	}
	return list
}
