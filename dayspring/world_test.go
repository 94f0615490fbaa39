package dayspring_test

import (
	"math"
	"slices"
	"strings"
	"testing"

	"dayspring/api"
	"dayspring/dayspring"
)

func foundOn(t *testing.T, d *dayspring.Disk) *dayspring.World {
	t.Helper()
	w, e := dayspring.Found(d)
	if w == nil || e != api.OK {
		t.Fatalf("Found = %v, %d", w, e)
	}
	return w
}

// count is a script that counts its ticks in the cell 0 and tells how many there were.
var count = code(api.Load, 0, api.Push, 1, api.Add, api.Dup, api.Store, 0, api.Out)

// wantGone asks a world whose disk is gone: it answers ErrDisk and holds what it held.
func wantGone(t *testing.T, w *dayspring.World, what string) {
	t.Helper()
	deeds := w.Deeds()
	cell, _ := w.Cell(0)
	for range 3 {
		told, e := w.Tick(1)
		if e != api.ErrDisk || told.Trap != 0 || told.Out != nil {
			t.Errorf("%s: Tick = %+v, %d", what, told, e)
		}
		wantErrno(t, what+": Load", w.Load(""), api.ErrDisk)
		wantErrno(t, what+": Save", w.Save(), api.ErrDisk)
		wantErrno(t, what+": Load of a wrong script", w.Load(code(api.Push)), api.ErrScript)
	}
	if n, e := w.Cell(0); w.Deeds() != deeds || n != cell || e != api.OK {
		t.Errorf("%s: %d deeds, the cell 0 holds %d (%d), want %d, %d", what, w.Deeds(), n, e, deeds, cell)
	}
}

func TestP1CallsOnNoWorld(t *testing.T) {
	none, _ := dayspring.NewDisk(0)
	for _, d := range []*dayspring.Disk{none, {}} {
		w, e := dayspring.Found(d)
		if w != nil || e != api.ErrPower {
			t.Errorf("Found on no disk = %v, %d", w, e)
		}
	}
	for _, w := range []*dayspring.World{nil, {}} {
		wantErrno(t, "Load of a wrong script", w.Load(code(25)), api.ErrScript)
		wantErrno(t, "Load", w.Load(""), api.ErrDisk)
		wantErrno(t, "Save", w.Save(), api.ErrDisk)
		_, e := w.Tick(0)
		wantErrno(t, "Tick", e, api.ErrDisk)
		_, e = w.Cell(-1)
		wantErrno(t, "Cell", e, api.ErrCell)
		_, e = w.Text(4)
		wantErrno(t, "Text", e, api.ErrCell)
		w.Cell(0)
		w.Text(0)
		if w.Deeds() != 0 {
			t.Errorf("%d deeds", w.Deeds())
		}
	}
}

func TestP1AtAllInputs(t *testing.T) {
	for op := range 25 {
		for added := range 4 {
			script := code(api.Input, api.Input, api.Input, op)
			if addings[op] != '-' {
				script += code(added)
			}
			w := foundOn(t, newDisk(t, 48))
			w.Load(script)
			for _, n := range oddNumbers {
				w.Tick(int64(n))
				w.Cell(n)
				w.Text(n)
			}
		}
	}
}

func TestP2ToldIsNewMemory(t *testing.T) {
	for _, n := range []int{1, 2, 3, 5, 8} {
		w := newWorld(t, times(n, count))
		var all [][]int64
		for range 4 {
			told, e := w.Tick(0)
			if len(told.Out) != n || e != api.OK {
				t.Fatalf("Tick = %+v, %d", told, e)
			}
			all = append(all, told.Out)
		}
		for i, out := range all {
			for k := range out {
				if out[k] != int64(i*n+k+1) {
					t.Errorf("the tick %d told %v", i, out)
				}
			}
		}
		// What is written into one list, its spare room too, comes to no other list and to no world.
		first := all[0][:cap(all[0])]
		for k := range first {
			first[k] = -99
		}
		for i, out := range all[1:] {
			if slices.Contains(out[:cap(out)], -99) || out[0] != int64((i+1)*n+1) {
				t.Errorf("the tick %d shares its memory: %v", i+1, out[:cap(out)])
			}
		}
		told, _ := w.Tick(0)
		if told.Out[0] != int64(4*n+1) {
			t.Errorf("the tick behind told %v", told.Out)
		}
		wantCell(t, w, 0, int64(5*n))
	}
}

func TestP2NothingToldIsEmpty(t *testing.T) {
	w := newWorld(t, code(api.Input, api.Out, api.Input, api.Out))
	wantTick(t, w, 5, 0, 5, 5)
	w.Load("")
	wantTick(t, w, 5, 0)
	w.Load(code(api.Input, api.Out, api.Drop))
	wantTick(t, w, 5, api.TrapStack)
	wantTick(t, w, 5, api.TrapStack)
}

func TestP2WorldsOnDifferentDisks(t *testing.T) {
	da, db := newDisk(t, 48), newDisk(t, 48)
	a, b := foundOn(t, da), foundOn(t, db)
	a.Load(count)
	wantTick(t, b, 0, 0)
	b.Load(code(api.Push, -1, api.Store, 0, api.Push, 66, api.Put, 0))
	for i := range int64(3) {
		wantTick(t, a, 0, 0, i+1)
		wantTick(t, b, 0, 0)
		wantCell(t, a, 0, i+1)
		wantCell(t, b, 0, -1)
		wantText(t, a, 0, "")
	}
	b.Load(code(api.Push, 7, api.Store, 0, api.Drop))
	wantTick(t, b, 0, api.TrapStack)
	wantCell(t, a, 0, 3)
	if a.Deeds() != 4 || b.Deeds() != 7 {
		t.Errorf("%d and %d deeds", a.Deeds(), b.Deeds())
	}
	failNow(db, 0, 0)
	wantGone(t, b, "its disk has no power")
	wantTick(t, a, 0, 0, 4)
	db.Restart()
	foundOn(t, db)
	wantTick(t, a, 0, 0, 5)
}

func TestP2AskingAWorldChangesNothing(t *testing.T) {
	d := newDisk(t, 48)
	w := foundOn(t, d)
	w.Load(count + code(api.Push, 65, api.Put, 1))
	ask := func() {
		writes := d.Writes()
		for _, n := range oddNumbers {
			w.Cell(n)
			w.Text(n)
		}
		w.Deeds()
		if d.Writes() != writes {
			t.Error("asking writes")
		}
	}
	for i := range int64(5) {
		ask()
		wantTick(t, w, 0, 0, i+1)
		ask()
		wantCell(t, w, 0, i+1)
		wantText(t, w, 1, strings.Repeat("A", int(i)+1))
	}
	d.Fuse(0, 0, 0)
	ask()
	if !d.On() {
		t.Error("asking burns the fuse down")
	}
}

func TestP2CheckKnowsNoWorld(t *testing.T) {
	scripts := []string{"", count, code(api.Jump, 2), code(api.Jump, 1), code(25), times(201, code(0))}
	var first []api.Errno
	for _, s := range scripts {
		first = append(first, dayspring.Check(s))
	}
	w := newWorld(t, times(100, code(api.Push, 1)))
	w.Tick(1)
	for i, s := range scripts {
		wantErrno(t, "Check again", dayspring.Check(s), first[i])
		w.Load(s)
		wantErrno(t, "Check behind a Load", dayspring.Check(s), first[i])
	}
	if w.Deeds() != 2+3 {
		t.Errorf("%d deeds", w.Deeds())
	}
}

func TestP6ANewWorld(t *testing.T) {
	for _, sectors := range []int{48, 49, 100, 128} {
		d := newDisk(t, sectors)
		w := foundOn(t, d)
		wantWorld(t, w, &model{}, "a new world")
		wantTick(t, w, 5, 0) // it has the empty script
		wantWorld(t, w, &model{deeds: 1}, "behind a tick")
		w.Load(count + code(api.Push, 65, api.Put, 3))
		wantTick(t, w, 5, 0, 1)
		// Nothing of it comes to the next one.
		w = foundOn(t, d)
		wantWorld(t, w, &model{}, "the next world")
		wantTick(t, w, 5, 0)
	}
}

// Whatever stands on the disk, a new world is new.
func TestP6FoundOnWhatOthersWrote(t *testing.T) {
	for _, c := range []byte{0, 1, 65, 255} {
		d := newDisk(t, 48)
		for i := range 48 {
			d.Write(i, full(c))
		}
		w := foundOn(t, d)
		wantWorld(t, w, &model{}, "a new world")
		wantTick(t, w, 5, 0)
	}
}

func TestP6FoundWithoutPower(t *testing.T) {
	for _, deeds := range []int{0, -1, math.MinInt} {
		d := newDisk(t, 48)
		old := foundOn(t, d)
		old.Load(count)
		wantTick(t, old, 0, 0, 1)
		d.Fuse(deeds, 0xffff, 0)
		for _, what := range []string{"loses its power", "has no power"} {
			w, e := dayspring.Found(d)
			if w != nil || e != api.ErrPower || d.On() {
				t.Errorf("Found on a disk that %s = %v, %d, on: %t", what, w, e, d.On())
			}
			wantGone(t, old, "behind a Found that was not OK")
		}
		d.Restart()
		wantGone(t, old, "restarted")
		w := foundOn(t, d)
		wantWorld(t, w, &model{}, "founded again")
		wantGone(t, old, "founded again")
	}
}

func TestP6Load(t *testing.T) {
	w := foundOn(t, newDisk(t, 48))
	wantErrno(t, "Load", w.Load(count), api.OK)
	wantTick(t, w, 0, 0, 1)
	for _, wrong := range []string{code(25), code(api.Push), code(api.Jump, 1), code(api.Load, 16), code(api.Put, 4), times(201, code(0))} {
		wantErrno(t, "Load of a wrong script", w.Load(wrong), api.ErrScript)
	}
	if w.Deeds() != 2 {
		t.Errorf("%d deeds: a wrong script is none", w.Deeds())
	}
	wantTick(t, w, 0, 0, 2) // the script is the old one
	wantErrno(t, "Load", w.Load(code(api.Load, 0, api.Out)), api.OK)
	wantWorld(t, w, &model{cells: [16]int64{2}, deeds: 4}, "behind a Load")
	wantTick(t, w, 0, 0, 2)
	wantErrno(t, "Load of the longest", w.Load(times(198, code(api.Halt))+code(api.Jump, 200)), api.OK)
	wantTick(t, w, 0, 0)
	wantErrno(t, "Load of the empty", w.Load(""), api.OK)
	wantTick(t, w, 0, 0)
	if w.Deeds() != 9 {
		t.Errorf("%d deeds", w.Deeds())
	}
}

func TestP6TrappedTicksAreDeeds(t *testing.T) {
	w := newWorld(t, code(api.Input, api.Input, api.Input, api.Div, api.Store, 0, api.Drop))
	for i, input := range []int64{1, 0, 0, 5, 0} {
		trap := 0
		if input == 0 {
			trap = api.TrapZero
		}
		wantTick(t, w, input, trap)
		if w.Deeds() != i+2 {
			t.Errorf("%d deeds, want %d", w.Deeds(), i+2)
		}
	}
}

func TestP6TheDiskIsGone(t *testing.T) {
	for _, c := range []struct {
		what string
		lose func(d *dayspring.Disk)
	}{
		{"no power", func(d *dayspring.Disk) { failNow(d, 0, 0) }},
		{"no power, whatever lasts", func(d *dayspring.Disk) { failNow(d, 0xffff, 16*64) }},
		{"no power, by a Write", func(d *dayspring.Disk) { d.Fuse(0, 0, 0); d.Write(47, full('a')) }},
		{"restarted", func(d *dayspring.Disk) { d.Restart() }},
		{"restarted without power", func(d *dayspring.Disk) { failNow(d, 0, 0); d.Restart() }},
		{"restarted twice", func(d *dayspring.Disk) { d.Restart(); d.Restart() }},
		{"another world", func(d *dayspring.Disk) { dayspring.Found(d) }},
		{"two other worlds", func(d *dayspring.Disk) { dayspring.Found(d); dayspring.Found(d) }},
		{"another world, restarted", func(d *dayspring.Disk) { dayspring.Found(d); d.Restart() }},
		{"returned to", func(d *dayspring.Disk) { dayspring.Return(d) }},
		{"returned to twice", func(d *dayspring.Disk) { dayspring.Return(d); dayspring.Return(d) }},
		{"restarted, returned to", func(d *dayspring.Disk) { d.Restart(); dayspring.Return(d) }},
		{"no power by a Return", func(d *dayspring.Disk) { d.Fuse(0, 0, 0); dayspring.Return(d) }},
		{"no power by a Found", func(d *dayspring.Disk) { d.Fuse(1, 0, 0); dayspring.Found(d) }},
	} {
		for _, returned := range []bool{false, true} {
			d := newDisk(t, 48)
			w := foundOn(t, d)
			w.Load(count)
			wantTick(t, w, 0, 0, 1)
			wantErrno(t, "Save", w.Save(), api.OK)
			if returned {
				w = returnTo(t, d)
			}
			wantTick(t, w, 0, 0, 2)
			c.lose(d)
			wantGone(t, w, c.what)
			d.Restart()
			wantGone(t, w, c.what+", and a restart")
			next := foundOn(t, d)
			next.Load(count)
			wantTick(t, next, 0, 0, 1)
			wantErrno(t, "Save", next.Save(), api.OK)
			writes := d.Writes()
			wantGone(t, w, c.what+", and another world")
			wantCell(t, w, 0, 2)
			if d.Writes() != writes {
				t.Errorf("%s: it writes on the other world's disk", c.what)
			}
			wantTick(t, next, 0, 0, 2)
			wantCell(t, returnTo(t, d), 0, 1)
			wantGone(t, w, c.what+", and a Return to another world")
		}
	}
}

// What does not take the disk away leaves the world where it was.
func TestP6TheDiskIsThere(t *testing.T) {
	d := newDisk(t, 48)
	w := foundOn(t, d)
	w.Load(count)
	d.Sync()
	d.Fuse(math.MaxInt, 0, 0)
	d.Read(0)
	d.Write(48, full('a'))
	d.Write(0, "a")
	dayspring.Found(nil)
	dayspring.Return(nil)
	foundOn(t, newDisk(t, 48))
	dayspring.Return(newDisk(t, 48))
	wantTick(t, w, 0, 0, 1)
	wantErrno(t, "Save", w.Save(), api.OK)
	wantErrno(t, "Load", w.Load(""), api.OK)
	wantTick(t, w, 0, 0)
}

// A Return that finds no world, as others have written there, takes the disk from nobody.
func TestP6NoWorldWasReturnedTo(t *testing.T) {
	for c := range 256 {
		d := newDisk(t, 48)
		w := foundOn(t, d)
		w.Load(count)
		for i := range 48 {
			d.Write(i, full(byte(c)))
		}
		if _, e := dayspring.Return(d); e == api.ErrNone {
			wantTick(t, w, 0, 0, 1)
			wantErrno(t, "Save", w.Save(), api.OK)
		} else {
			wantGone(t, w, "returned to some world")
		}
	}
}

func TestP6SaveWithoutPower(t *testing.T) {
	d := newDisk(t, 48)
	w := foundOn(t, d)
	w.Load(count)
	wantTick(t, w, 0, 0, 1)
	d.Fuse(0, 0, 0)
	wantErrno(t, "Save by which the power fails", w.Save(), api.ErrDisk)
	wantGone(t, w, "a Save that was not OK")
}

func TestP6SaveIsSafe(t *testing.T) {
	d := newDisk(t, 48)
	w := foundOn(t, d)
	for _, saves := range []int{1, 2, 5} {
		w.Load(count)
		for range saves {
			w.Tick(0)
			wantErrno(t, "Save", w.Save(), api.OK)
			wantErrno(t, "Save with nothing new", w.Save(), api.OK)
		}
		cell, _ := w.Cell(0)
		deeds := w.Deeds()
		failNow(d, 0, 0)
		d.Restart()
		w = returnTo(t, d)
		wantCell(t, w, 0, cell)
		if w.Deeds() != deeds {
			t.Errorf("%d deeds came back, %d were saved", w.Deeds(), deeds)
		}
		wantTick(t, w, 0, 0, cell+1)
	}
}

func TestP7CellsAndTextsThatThereAreNot(t *testing.T) {
	w := newWorld(t, code(api.Push, 9, api.Store, 15, api.Push, 65, api.Put, 3))
	wantTick(t, w, 0, 0)
	for _, n := range append([]int{2, 3, 4, 5, 14}, oddNumbers...) {
		var cell int64
		wantE := api.OK
		if n < 0 || n >= 16 {
			wantE = api.ErrCell
		} else if n == 15 {
			cell = 9
		}
		if got, e := w.Cell(n); got != cell || e != wantE {
			t.Errorf("Cell(%d) = %d, %d", n, got, e)
		}
		text := ""
		wantE = api.OK
		if n < 0 || n >= 4 {
			wantE = api.ErrCell
		} else if n == 3 {
			text = "A"
		}
		if got, e := w.Text(n); got != text || e != wantE {
			t.Errorf("Text(%d) = %q, %d", n, got, e)
		}
	}
	wantCell(t, w, 15, 9)
}

func TestP7WithoutPower(t *testing.T) {
	d := newDisk(t, 48)
	w := foundOn(t, d)
	script := count + code(api.Input, api.Put, 2, api.Input, api.Store, 7)
	m := &model{}
	w.Load(script)
	m.load(script)
	for _, input := range []int64{300, -5, 0} {
		told, e := w.Tick(input)
		if !sameTold(told, m.tick(input)) || e != api.OK {
			t.Errorf("Tick = %+v, %d", told, e)
		}
	}
	failNow(d, 0, 0)
	wantWorld(t, w, m, "no power")
	for _, n := range []int{-1, 16, math.MaxInt} {
		if c, e := w.Cell(n); c != 0 || e != api.ErrCell {
			t.Errorf("Cell(%d) without power = %d, %d", n, c, e)
		}
		if s, e := w.Text(n); s != "" || e != api.ErrCell {
			t.Errorf("Text(%d) without power = %q, %d", n, s, e)
		}
	}
	w.Tick(9)
	w.Load("")
	wantWorld(t, w, m, "behind deeds that were not OK")
	d.Restart()
	w.Tick(9)
	wantWorld(t, w, m, "restarted")
	foundOn(t, d).Load(code(api.Halt))
	w.Tick(9)
	wantWorld(t, w, m, "another world was founded")
}

// What was asked for stays as it was told.
func TestP7TextsAreNewMemory(t *testing.T) {
	w := newWorld(t, code(api.Input, api.Put, 0))
	wantTick(t, w, 'a', 0)
	a, _ := w.Text(0)
	wantTick(t, w, 'b', 0)
	w.Load(code(api.Wipe, 0, api.Input, api.Put, 0))
	wantTick(t, w, 'c', 0)
	if a != "a" {
		t.Errorf("a text that was told is %q now", a)
	}
	wantText(t, w, 0, "c")
}
