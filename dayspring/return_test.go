package dayspring_test

import (
	"fmt"
	"math/rand"
	"slices"
	"strings"
	"testing"

	"dayspring/api"
	"dayspring/dayspring"
)

func returnTo(t *testing.T, d *dayspring.Disk) *dayspring.World {
	t.Helper()
	w, e := dayspring.Return(d)
	if w == nil || e != api.OK {
		t.Fatalf("Return = %v, %d", w, e)
	}
	return w
}

func wantNoReturn(t *testing.T, d *dayspring.Disk, what string, want api.Errno) {
	t.Helper()
	if w, e := dayspring.Return(d); w != nil || e != want {
		t.Errorf("%s: Return = %v, %d, want %d", what, w, e, want)
	}
}

func TestP8NoWorld(t *testing.T) {
	for _, sectors := range []int{48, 49, 100, 128} {
		d := newDisk(t, sectors)
		for range 3 {
			wantNoReturn(t, d, "a new disk", api.ErrNone)
		}
		d.Restart()
		wantNoReturn(t, d, "a restarted disk", api.ErrNone)
		for i := range sectors {
			wantRead(t, d, i, full(0))
		}
		wantWorld(t, foundOn(t, d), &model{}, "behind it")
	}
}

func TestP8WithoutPower(t *testing.T) {
	for _, founded := range []bool{false, true} {
		d := newDisk(t, 48)
		want := api.ErrNone
		if founded {
			foundOn(t, d)
			want = api.OK
		}
		failNow(d, 0, 0)
		for range 2 {
			wantNoReturn(t, d, "no power", api.ErrPower)
		}
		d.Restart()
		w, e := dayspring.Return(d)
		if e != want || (w != nil) != founded {
			t.Errorf("restarted: Return = %v, %d", w, e)
		}
	}
	none, _ := dayspring.NewDisk(0)
	wantNoReturn(t, none, "no disk", api.ErrPower)
	wantNoReturn(t, &dayspring.Disk{}, "no disk", api.ErrPower)
}

// The world comes back with all that it has: each cell, each text, the script, the deeds.
func TestP8AllOfIt(t *testing.T) {
	fill := ""
	for n := range api.Cells {
		fill += code(api.Input, api.Push, 7*n-50, api.Mul, api.Store, n)
	}
	for n := range api.Texts {
		fill += code(api.Input, api.Push, n, api.Sub, api.Put, n)
	}
	scripts := []string{fill, times(200, code(api.Halt)), times(100, code(api.Push, -1)), mixing, "", code(api.Jump, 0), times(99, code(api.Jump, 200)) + code(api.Wipe, 3)}
	for _, sectors := range []int{48, 63, 128} {
		k := newKeeper(t, sectors)
		k.found()
		for i, s := range scripts {
			k.at = fmt.Sprintf("%d sectors, the script %d", sectors, i)
			k.load(s)
			k.save()
			k.goOn()
			k.saveAll(countUp(-13, 26)...)
			k.goOn()
			k.load(s)
			k.saveAll(1<<63-1, -1<<63)
			k.goOn()
			k.saveAll(0)
		}
	}
}

func TestP8Unsaved(t *testing.T) {
	k := newKeeper(t, 48)
	k.found()
	k.goOn() // a world without deeds is safe by the Found
	k.load(mixing)
	k.ticks(1, 2)
	k.goOn()
	if k.now.safe > 0 {
		k.load("")
	}
	k.load(mixing)
	k.saveAll(3)
	safe := k.now.safe
	k.ticks(4, 5)
	k.load("")
	k.goOn()
	if got := k.w.Deeds(); got < safe {
		t.Errorf("%d deeds came back, %d were safe", got, safe)
	}
	k.prove()
}

// A disk that has never lost its power: who returns finds what is safe.
func TestP8ReturnWithoutRestart(t *testing.T) {
	k := newKeeper(t, 48)
	k.found()
	k.load(mixing)
	k.saveAll(1, 2)
	k.ticks(3, 4)
	old, cells := k.w, k.now.now().cells
	k.back()
	if k.w.Deeds() < 3 {
		t.Errorf("%d deeds", k.w.Deeds())
	}
	wantGone(t, old, "returned to")
	if n, _ := old.Cell(0); n != cells[0] || old.Deeds() != 5 {
		t.Errorf("the old one: %d deeds, the cell 0 holds %d", old.Deeds(), n)
	}
	k.saveAll(5)
	wantGone(t, old, "the other one goes on")
	k.goOn()
	wantGone(t, old, "restarted")
	k.prove()
	wantGone(t, old, "long behind")
}

func TestP8ReturnBehindReturn(t *testing.T) {
	k := newKeeper(t, 48)
	k.found()
	k.load(mixing)
	k.saveAll(countUp(0, 20)...)
	k.ticks(98, 99)
	k.back()
	deeds := k.w.Deeds()
	for i := range 40 {
		if i%3 == 0 {
			k.d.Restart()
		}
		if i%5 == 0 {
			k.d.Fuse(0, i, i*i)
			k.back()
			k.d.Restart()
		}
		k.back()
		if k.w.Deeds() != deeds {
			t.Fatalf("%d deeds, want %d", k.w.Deeds(), deeds)
		}
	}
	k.prove()
}

// What a Return has found is safe, though nobody has saved it.
func TestP8FoundByAReturn(t *testing.T) {
	for n := range 12 {
		for _, mask := range []int{0, 0xffff} {
			for _, tear := range []int{0, 16 * 64} {
				k := newKeeper(t, 48)
				k.found()
				k.load(mixing)
				k.saveAll(1, 2, 3)
				k.d.Fuse(n, mask, tear)
				k.saveAll(4, 5, 6)
				k.goOn()
				deeds := k.w.Deeds()
				for range 3 {
					k.goOn()
				}
				if k.w.Deeds() != deeds {
					t.Errorf("%d deeds, then %d", deeds, k.w.Deeds())
				}
			}
		}
	}
}

// Here nothing of what the Return finds is synced: others have written a world's sectors.
func TestP8FoundUnsynced(t *testing.T) {
	k := newKeeper(t, 48)
	saved(9)(k)
	d := newDisk(t, 48)
	for i := range 48 {
		s, _ := k.d.Read(i)
		d.Write(i, s)
	}
	w, e := dayspring.Return(d)
	if e != api.OK {
		return // then it finds nothing
	}
	m := modelOf(w)
	for _, mask := range []int{0, 0xffff, 0x5555} {
		failNow(d, mask, 999)
		d.Restart()
		wantWorld(t, returnTo(t, d), m, "unsynced")
	}
}

// The document's examples, with a Save and a power failure behind each tick.
func TestP8Examples(t *testing.T) {
	for _, c := range []struct {
		script string
		inputs []int64
		told   []api.Told
	}{
		{count, []int64{5, -5, 0}, []api.Told{{Out: []int64{1}}, {Out: []int64{2}}, {Out: []int64{3}}}},
		{code(api.Input, api.Zero, 5, api.Push, 7, api.Input, api.Div, api.Out), []int64{2, 0}, []api.Told{{Out: []int64{3}}, {Trap: api.TrapStack}}},
		{code(api.Jump, 0), []int64{1, 2}, []api.Told{{Trap: api.TrapFuel}, {Trap: api.TrapFuel}}},
		{code(api.Push, 65, api.Put, 0), make([]int64, 30), append(make([]api.Told, 24), slices.Repeat([]api.Told{{Trap: api.TrapCell}}, 6)...)},
		{code(api.Push, 9, api.Store, 1, api.Push, 0, api.Push, 0, api.Div), []int64{4}, []api.Told{{Trap: api.TrapZero}}},
	} {
		d := newDisk(t, 48)
		w := foundOn(t, d)
		w.Load(c.script)
		for i, input := range c.inputs {
			wantTick(t, w, input, c.told[i].Trap, c.told[i].Out...)
			wantErrno(t, "Save", w.Save(), api.OK)
			m := modelOf(w)
			failNow(d, 0, 0)
			d.Restart()
			w = returnTo(t, d)
			wantWorld(t, w, m, "an example")
		}
	}
}

// Of two worlds on one disk the one that was founded last comes back.
func TestP8TheLastOne(t *testing.T) {
	for founds := range 5 {
		k := newKeeper(t, 48)
		for i := range founds + 1 {
			k.found()
			k.load(mixing)
			k.saveAll(countUp(i, 10*i)...)
			k.tick(99)
		}
		k.found()
		k.goOn()
		if k.w.Deeds() != 0 {
			t.Errorf("%d deeds", k.w.Deeds())
		}
		k.prove()
	}
}

func TestP8WorldsOnDifferentDisks(t *testing.T) {
	a, b := newKeeper(t, 48), newKeeper(t, 48)
	a.found()
	a.load(mixing)
	a.saveAll(1, 2)
	wantNoReturn(t, b.d, "the other disk", api.ErrNone)
	b.found()
	b.saveAll(7)
	b.d.Fuse(1, 0xffff, 0)
	b.saveAll(8)
	a.saveAll(3)
	a.goOn()
	b.goOn()
	a.back()
	a.saveAll(4)
	b.saveAll(9)
	a.prove()
	b.prove()
}

// failure is a way in which the power fails.
type failure struct{ mask, tear int }

// failures: each write of up to 16 is torn, at each of some places, with each of some masks.
func failures() []failure {
	var list []failure
	for _, bytes := range []int{0, 1, 2, 8, 9, 40, 63, 64} {
		for which := range 16 {
			for _, mask := range []int{0, 0xffff, 0x5555, 0xaaaa, 0x70f3} {
				list = append(list, failure{mask, 16*bytes + which})
			}
		}
	}
	return list
}

// everyFailure lets the power fail at each single Write and Sync of what is done, each time
// in one of so many of the ways. (A share that is prime meets all masks and all tears.)
func everyFailure(t *testing.T, share int, before, done func(k *keeper)) {
	t.Helper()
	ways := failures()
	whole := false
	for n := 0; !whole; n++ {
		for i := n % share; i < len(ways); i += share {
			f := ways[i]
			k := newKeeper(t, 48)
			k.at = fmt.Sprintf("power for %d, mask %x, tear %d", n, f.mask, f.tear)
			before(k)
			k.d.Fuse(n, f.mask, f.tear)
			done(k)
			whole = whole || k.d.On()
			k.goOn()
			k.prove()
		}
	}
}

// saved gives a world with so many ticks that were saved one by one behind its script.
func saved(ticks int) func(k *keeper) {
	return func(k *keeper) {
		k.found()
		k.load(mixing)
		k.save()
		for i := range ticks {
			k.tick(int64(i))
			k.save()
		}
	}
}

// lost does deeds that are lost, as far as they can be: some of what was written lasts.
func lost(power, mask int, inputs []int64) func(k *keeper) {
	return func(k *keeper) {
		saved(5)(k)
		k.d.Fuse(power, mask, 0)
		k.saveAll(inputs...)
		k.goOn()
	}
}

func TestP8EveryFailure(t *testing.T) {
	nothing := func(k *keeper) {}
	founding := func(k *keeper) { k.found() }
	returning := func(k *keeper) { k.back() }
	ticking := func(inputs ...int64) func(k *keeper) {
		return func(k *keeper) { k.saveAll(inputs...) }
	}
	loading := func(k *keeper) { k.load(count); k.save() }
	for what, c := range map[string]struct {
		share        int
		before, done func(k *keeper)
	}{
		"Found on a new disk":           {3, nothing, founding},
		"Found on a world":              {3, saved(7), founding},
		"Found on a world found twice":  {3, func(k *keeper) { k.found(); saved(7)(k) }, founding},
		"Found on a world returned to":  {31, func(k *keeper) { saved(140)(k); k.goOn() }, founding},
		"Found behind lost deeds":       {3, lost(2, 0xffff, countUp(50, 20)), founding},
		"the first Load":                {3, founding, loading},
		"a Load":                        {3, saved(3), loading},
		"a Load behind ticks":           {3, saved(3), func(k *keeper) { k.ticks(7, 8); loading(k) }},
		"a tick on a new world":         {3, founding, ticking(7)},
		"the first tick":                {3, saved(0), ticking(7)},
		"a tick":                        {3, saved(5), ticking(-1)},
		"ten ticks":                     {3, saved(5), ticking(countUp(90, 10)...)},
		"a hundred ticks":               {31, saved(5), ticking(countUp(90, 100)...)},
		"a thousand ticks":              {53, saved(5), ticking(countUp(90, 1000)...)},
		"the same ticks":                {3, lost(2, 0xffff, []int64{8, 8, 8, 8, 8}), ticking(8, 8, 8)},
		"ticks behind lost ones":        {3, lost(2, 0xffff, countUp(50, 20)), ticking(countUp(60, 9)...)},
		"ticks behind ones half lost":   {3, lost(2, 0x5555, countUp(50, 20)), ticking(countUp(60, 9)...)},
		"a tick behind a lost thousand": {53, lost(7, 0xffff, countUp(50, 1000)), ticking(5)},
		"Return":                        {3, saved(9), returning},
		"Return to lost ticks":          {3, lost(2, 0xffff, countUp(50, 20)), returning},
		"nothing new":                   {3, saved(9), ticking()},
	} {
		t.Run(what, func(t *testing.T) {
			t.Parallel()
			everyFailure(t, c.share, c.before, c.done)
		})
	}
}

// Where the room for what was done runs out, whatever is there for it must come as one.
func TestP8EveryFailureAfterManyTicks(t *testing.T) {
	for ticks := 119; ticks < 131; ticks++ {
		t.Run(fmt.Sprint(ticks), func(t *testing.T) {
			t.Parallel()
			everyFailure(t, 53, saved(ticks), func(k *keeper) {
				k.saveAll(1)
				k.saveAll(2)
				k.saveAll(3)
			})
		})
	}
}

// A whole tale, of all the calls, cut off at each single Write and Sync.
func TestP8EveryFailureOfATale(t *testing.T) {
	t.Parallel()
	everyFailure(t, 7, func(k *keeper) {}, func(k *keeper) {
		k.found()
		k.load(mixing)
		k.tick(1)
		k.save()
		k.saveAll(2)
		k.saveAll(countUp(3, 9)...)
		k.load(count)
		k.save()
		k.back()
		k.saveAll(5)
		k.found()
		k.saveAll(6)
	})
}

// The power fails twice: in what is done, and again in the Return or in what is done then.
func TestP8TwoFailures(t *testing.T) {
	t.Parallel()
	twice := []failure{{0, 0}, {0xffff, 16 * 64}, {0x5555, 16*32 + 6}, {0xaaaa, 16*9 + 3}}
	for first := range 14 {
		for second := range 14 {
			for _, f := range twice {
				for _, g := range twice {
					k := newKeeper(t, 48)
					k.at = fmt.Sprintf("power for %d, %+v, then for %d, %+v", first, f, second, g)
					saved(4)(k)
					k.saveAll(countUp(0, 118)...)
					k.d.Fuse(first, f.mask, f.tear)
					k.saveAll(1, 2)
					k.saveAll(3, 4, 5)
					k.d.Restart()
					k.d.Fuse(second, g.mask, g.tear)
					k.back()
					k.saveAll(6, 7)
					k.saveAll(8, 9)
					k.goOn()
					k.prove()
				}
			}
		}
	}
}

func TestP8AFoundThatWasNotOK(t *testing.T) {
	k := newKeeper(t, 48)
	k.d.Fuse(0, 0xffff, 0)
	k.found()
	k.d.Restart()
	wantNoReturn(t, k.d, "nothing of it was done", api.ErrNone)
	saved(4)(k)
	old := k.w
	for n := range 60 {
		k.d.Fuse(n, 0xffff, 16*64)
		if k.found() {
			break
		}
		k.goOn()
		wantGone(t, old, "behind a Found that was not OK")
	}
	if k.w.Deeds() != 0 {
		t.Errorf("%d deeds", k.w.Deeds())
	}
	k.prove()
}

// words are the numbers that stand on a disk: inputs that are taken from them look like
// what is there already, or was.
func words(d *dayspring.Disk, r *rand.Rand) []int64 {
	s, _ := d.Read(r.Intn(48))
	var list []int64
	for at := 0; at+8 <= len(s); at += 1 + r.Intn(8) {
		n := int64(0)
		for i := range 8 {
			n |= int64(s[at+i]) << (8 * i)
		}
		list = append(list, n)
	}
	return list
}

// imitating: cells and texts hold what the inputs say, byte for byte.
func imitating(r *rand.Rand) string {
	s := ""
	for range 4 {
		s += code(api.Input, api.Store, r.Intn(16))
	}
	text := r.Intn(4)
	return s + code(api.Len, text, api.Push, 24, api.Less, api.Not, api.Zero, 22, api.Wipe, text, api.Input, api.Put, text)
}

// pushes: a script that is right, and has the bytes of a sector.
func pushes(d *dayspring.Disk, r *rand.Rand) string {
	s, _ := d.Read(r.Intn(48))
	b := ""
	for i := range s {
		b += code(api.Push, int(s[i]))
	}
	return b
}

func TestP8ImitatingIsRight(t *testing.T) {
	r := rand.New(rand.NewSource(5))
	for range 50 {
		s := imitating(r)
		wantErrno(t, "Check", dayspring.Check(s), api.OK)
		w := newWorld(t, s)
		for range 60 {
			wantTick(t, w, int64(r.Uint64()), 0)
		}
	}
}

// step does one thing at random; what inputs and scripts there are is chosen so that they
// are much alike, or look like what stands on the disk.
func (k *keeper) step(r *rand.Rand) {
	switch r.Intn(24) {
	case 0:
		k.found()
	case 1:
		k.back()
	case 2:
		k.load(randomScript(r))
	case 3:
		k.load(imitating(r))
	case 4:
		k.load([]string{mixing, count, "", pushes(k.d, r)}[r.Intn(4)])
	case 5:
		k.ticks(words(k.d, r)...)
	case 6:
		k.ticks(make([]int64, r.Intn(40))...)
	case 7:
		k.ticks(countUp(0, r.Intn(200))...)
	case 8, 9, 10, 11, 12, 13:
		k.save()
	case 14, 15:
		k.tick(randomInput(r))
	default:
		k.saveAll(int64(r.Intn(2)))
	}
}

func TestP8ManyFailures(t *testing.T) {
	for part := range 8 {
		t.Run(fmt.Sprint(part), func(t *testing.T) {
			t.Parallel()
			r := rand.New(rand.NewSource(int64(part)))
			for round := range 100 {
				k := newKeeper(t, 48+r.Intn(81)*(round%2))
				for fall := range 25 {
					k.at = fmt.Sprintf("part %d, round %d, fall %d", part, round, fall)
					k.goOn()
					k.d.Fuse(r.Intn(40), r.Intn(65536), r.Intn(1200))
					for range r.Intn(60) {
						k.step(r)
					}
					for r.Intn(2) == 0 {
						k.d.Restart()
						k.d.Fuse(r.Intn(4), r.Intn(65536), r.Intn(1200))
						k.back()
					}
				}
			}
		})
	}
}

// scribble writes on a disk as others do, here and there unsynced.
func scribble(d *dayspring.Disk, r *rand.Rand) {
	few := 1 + r.Intn(2)*255
	for range r.Intn(120) {
		switch r.Intn(12) {
		case 0:
			d.Sync()
		case 1:
			s, _ := d.Read(r.Intn(48)) // what stood elsewhere
			d.Write(r.Intn(48), s)
		case 2:
			d.Write(r.Intn(3), full(byte(r.Intn(256))))
		default:
			s := []byte(randomSector(r))
			for i := range s {
				s[i] = byte(int(s[i]) % few)
			}
			s[0] = byte(r.Intn(256))
			d.Write(r.Intn(48), string(s))
		}
	}
}

func TestP8OthersAheadOfAFound(t *testing.T) {
	t.Parallel()
	r := rand.New(rand.NewSource(6))
	for round := range 1500 {
		k := newKeeper(t, 48)
		k.at = fmt.Sprintf("round %d", round)
		if round%3 > 0 {
			saved(r.Intn(140))(k)
		}
		scribble(k.d, r)
		k.found()
		k.d.Fuse(r.Intn(12), r.Intn(65536), r.Intn(1200))
		if r.Intn(2) == 0 {
			k.load(mixing)
		}
		k.saveAll(1)
		k.saveAll(countUp(3, r.Intn(20))...)
		k.d.Restart()
		k.d.Fuse(r.Intn(30), r.Intn(65536), r.Intn(1200))
		k.found()
		k.goOn()
		k.prove()
	}
	for c := range 256 {
		k := newKeeper(t, 48)
		for i := range 48 {
			k.d.Write(i, full(byte(c)))
		}
		k.found()
		k.goOn()
		if k.w.Deeds() != 0 {
			t.Errorf("%d deeds", k.w.Deeds())
		}
		k.saveAll(1)
		k.prove()
	}
}

// wantSome returns to whatever is there. A world that comes back is one like others.
func wantSome(t *testing.T, d *dayspring.Disk, what string) bool {
	t.Helper()
	w, e := dayspring.Return(d)
	if (w == nil) != (e != api.OK) || e != api.OK && e != api.ErrNone {
		t.Fatalf("%s: Return = %v, %d", what, w, e)
	}
	if w == nil {
		return false
	}
	was := w.Deeds()
	for i := range int64(3) {
		if _, e := w.Tick(i); e != api.OK {
			t.Fatalf("%s: Tick = %d", what, e)
		}
	}
	wantErrno(t, what+": Save", w.Save(), api.OK)
	wantErrno(t, what+": Load", w.Load(mixing), api.OK)
	wantErrno(t, what+": Save", w.Save(), api.OK)
	d.Restart()
	m := modelOf(w)
	if m.deeds != was+4 || was < 0 {
		t.Fatalf("%s: %d deeds, then %d", what, was, m.deeds)
	}
	wantWorld(t, returnTo(t, d), m, what)
	return true
}

// modelOf tells what a world holds; its script is not to be seen.
func modelOf(w *dayspring.World) *model {
	m := &model{deeds: w.Deeds()}
	for i := range m.cells {
		m.cells[i], _ = w.Cell(i)
	}
	for i := range m.texts {
		m.texts[i], _ = w.Text(i)
	}
	return m
}

// Whatever one byte of a world's disk becomes, there is some world, or none.
func TestP8OthersChangeAByte(t *testing.T) {
	t.Parallel()
	worlds := 0
	for at := range 48 * api.Sector {
		for _, to := range []byte{0, 1, 25, 127, 128, 201, 255} {
			k := newKeeper(t, 48)
			saved(9)(k)
			s, _ := k.d.Read(at / api.Sector)
			b := []byte(s)
			b[at%api.Sector] = to
			k.d.Write(at/api.Sector, string(b))
			if wantSome(t, k.d, fmt.Sprintf("byte %d, %d", at, to)) {
				worlds++
			}
			wantWorld(t, foundOn(t, k.d), &model{}, "founded again")
		}
	}
	if worlds == 0 {
		t.Error("no world is left")
	}
}

func TestP8OthersBehindAFound(t *testing.T) {
	t.Parallel()
	r := rand.New(rand.NewSource(7))
	for round := range 2000 {
		what := fmt.Sprintf("round %d", round)
		k := newKeeper(t, 48)
		k.found()
		k.load(randomScript(r))
		k.saveAll(words(k.d, r)...)
		k.saveAll(words(k.d, r)...)
		scribble(k.d, r)
		switch r.Intn(3) {
		case 0:
			k.save() // it knows nothing of the others
			k.saveAll(1)
			k.load(count)
			k.save()
		case 1:
			k.d.Fuse(r.Intn(12), r.Intn(65536), r.Intn(1200))
			dayspring.Found(k.d)
			k.d.Restart()
		case 2:
			k.d.Fuse(r.Intn(2), r.Intn(65536), r.Intn(1200))
			dayspring.Return(k.d)
			k.d.Restart()
		}
		wantSome(t, k.d, what)
		scribble(k.d, r)
		k.d.Restart()
		wantSome(t, k.d, what)
		k.found()
		k.prove()
	}
}

func TestP8OthersWithoutAWorld(t *testing.T) {
	for c := range 256 {
		for _, sectors := range []int{1, 2, 15, 48} {
			d := newDisk(t, 48)
			for i := range sectors {
				d.Write(i, full(byte(c)))
			}
			wantSome(t, d, "others alone")
			for i := range sectors {
				d.Write(i, string([]byte{byte(c)})+strings.Repeat("\x00", 63))
			}
			wantSome(t, d, "others alone")
		}
	}
}
