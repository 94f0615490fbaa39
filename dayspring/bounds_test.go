package dayspring_test

import (
	"fmt"
	"math/rand"
	"testing"

	"dayspring/api"
	"dayspring/dayspring"
)

// cost tells how many Writes and Syncs there are of what is done behind something else. A
// fuse tells the Syncs: the least one that leaves power behind it is as long as both are.
func cost(t *testing.T, before, done func(k *keeper)) (writes, syncs int) {
	t.Helper()
	run := func(fuse int) (*keeper, int) {
		k := newKeeper(t, 48)
		k.at = "cost"
		before(k)
		was := k.d.Writes()
		if fuse >= 0 {
			k.d.Fuse(fuse, 0, 0)
		}
		done(k)
		return k, k.d.Writes() - was
	}
	_, writes = run(-1)
	low, high := 0, 64
	for on := false; !on; high *= 2 {
		k, _ := run(high)
		on = k.d.On()
	}
	for low < high {
		middle := (low + high) / 2
		if k, _ := run(middle); k.d.On() {
			high = middle
		} else {
			low = middle + 1
		}
	}
	return writes, low - writes
}

func wantCost(t *testing.T, what string, most int, before, done func(k *keeper)) {
	t.Helper()
	if writes, syncs := cost(t, before, done); writes > most || syncs > most || writes < 0 || syncs < 0 {
		t.Errorf("%s: %d Writes and %d Syncs, of at most %d", what, writes, syncs, most)
	}
}

func TestP9FoundAndReturnAreCheap(t *testing.T) {
	junk := func(k *keeper) {
		for i := range 48 {
			k.d.Write(i, full(0xff))
		}
	}
	unsaved := func(k *keeper) { saved(5)(k); k.load(count); k.ticks(countUp(0, 300)...) }
	fell := func(k *keeper) {
		saved(120)(k)
		k.d.Fuse(4, 0x5555, 300)
		k.saveAll(countUp(0, 200)...)
		k.d.Restart()
	}
	for what, before := range map[string]func(k *keeper){
		"a new disk": func(k *keeper) {}, "others": junk, "a new world": func(k *keeper) { k.found() },
		"a world": saved(77), "a long one": saved(300), "an unsaved one": unsaved, "power that failed": fell,
	} {
		wantCost(t, "Found, "+what, 60, before, func(k *keeper) { k.found() })
		if what != "others" {
			wantCost(t, "Return, "+what, 40, before, func(k *keeper) { k.back() })
		}
	}
}

// meter looks at the bound of the ticks from each moment to each later one.
type meter struct {
	allowed int // 3 for each Save, and 1 for each tick
	least   int // the least that was ever written beyond what was allowed
}

func (m *meter) look(t *testing.T, writes int, at string) {
	t.Helper()
	beyond := writes - m.allowed
	m.least = min(m.least, beyond)
	if beyond-m.least > 40 {
		t.Fatalf("%s: %d Writes, %d are allowed", at, writes, m.allowed+40)
	}
}

// saveInTurn does Saves behind so many ticks each, in turn.
func saveInTurn(w *dayspring.World, ticks []int, saves int, look func(ticks int)) {
	for i := range saves {
		count := ticks[i%len(ticks)]
		for k := range count {
			w.Tick(int64(i - k))
		}
		w.Save()
		look(count)
	}
}

var turns = [][]int{{0}, {1}, {2}, {1, 0}, {1, 0, 0, 0}, {3, 1}, {7}, {8}, {9, 1}, {16, 1, 1}, {100, 1}, {124, 1, 1}, {125, 1}, {126}, {126, 1}, {127}, {127, 1}, {128, 1, 1}, {1000, 1, 0}}

func TestP9TicksAreCheap(t *testing.T) {
	t.Parallel()
	for _, ticks := range turns {
		for _, script := range []string{"", mixing} {
			d := newDisk(t, 48)
			w := foundOn(t, d)
			w.Load(script)
			m := &meter{}
			was := d.Writes() // the first Save is among those that are counted
			saveInTurn(w, ticks, 600, func(count int) {
				m.allowed += 3 + count
				m.look(t, d.Writes()-was, fmt.Sprint(ticks))
			})
			wantErrno(t, "Save", w.Save(), api.OK)
		}
	}
}

func TestP9SyncsAreFew(t *testing.T) {
	t.Parallel()
	for _, ticks := range turns {
		for _, saves := range []int{1, 2, 5, 150} {
			all := 0
			before := func(k *keeper) { saved(3)(k) }
			done := func(k *keeper) {
				all = 0
				saveInTurn(k.w, ticks, saves, func(count int) { all += count })
			}
			_, syncs := cost(t, before, done)
			if most := 3*saves + all + 40; syncs > most {
				t.Errorf("%v, %d Saves: %d Syncs, of at most %d", ticks, saves, syncs, most)
			}
		}
	}
}

// Neither ticks alone nor what asks write at all beyond what a tick may.
func TestP9TicksWithoutASave(t *testing.T) {
	d := newDisk(t, 48)
	w := foundOn(t, d)
	w.Load(mixing)
	w.Save()
	was := d.Writes()
	for i := range 2000 {
		w.Tick(int64(i))
		if d.Writes()-was > i+1+40 {
			t.Fatalf("the tick %d: %d Writes", i, d.Writes()-was)
		}
	}
}

// Who returns again and again writes no more for it.
func TestP9TicksAmongReturns(t *testing.T) {
	r := rand.New(rand.NewSource(8))
	for range 20 {
		d := newDisk(t, 48)
		w := foundOn(t, d)
		w.Load(mixing)
		w.Save()
		m := &meter{}
		written, returns := 0, 0
		for i := range 400 {
			was := d.Writes()
			count := r.Intn(4) * r.Intn(3)
			for range count {
				w.Tick(int64(i))
			}
			wantErrno(t, "Save", w.Save(), api.OK)
			m.allowed += 3 + count
			written += d.Writes() - was
			m.look(t, written, fmt.Sprintf("behind %d Returns", returns))
			if r.Intn(3) == 0 {
				d.Restart()
				was = d.Writes()
				w = returnTo(t, d)
				returns++
				if d.Writes()-was > 40 {
					t.Fatalf("Return: %d Writes", d.Writes()-was)
				}
			}
		}
	}
}

// However many deeds there are, and on the smallest disk: each Save is OK, and all comes back.
func TestP9ManyDeeds(t *testing.T) {
	d := newDisk(t, api.MinSectors)
	w := foundOn(t, d)
	m := &model{}
	r := rand.New(rand.NewSource(9))
	for round := range 4000 {
		if r.Intn(10) == 0 {
			script := []string{mixing, count, randomScript(r)}[r.Intn(3)]
			wantErrno(t, "Load", w.Load(script), api.OK)
			m.load(script)
		}
		for range r.Intn(10) * r.Intn(3) {
			input := randomInput(r)
			told, e := w.Tick(input)
			if !sameTold(told, m.tick(input)) || e != api.OK {
				t.Fatalf("round %d: Tick = %+v, %d", round, told, e)
			}
		}
		wantErrno(t, "Save", w.Save(), api.OK)
		if r.Intn(20) == 0 {
			d.Restart()
			w = returnTo(t, d)
			wantWorld(t, w, m, fmt.Sprintf("round %d", round))
		}
	}
	if m.deeds < 10000 {
		t.Errorf("%d deeds", m.deeds)
	}
}

func TestP9VeryManyTicks(t *testing.T) {
	d := newDisk(t, api.MinSectors)
	w := foundOn(t, d)
	w.Load(count)
	for i := range int64(60000) {
		w.Tick(i)
		if i%7 == 0 {
			wantErrno(t, "Save", w.Save(), api.OK)
		}
	}
	wantErrno(t, "Save", w.Save(), api.OK)
	d.Restart()
	w = returnTo(t, d)
	wantCell(t, w, 0, 60000)
	if w.Deeds() != 60001 {
		t.Errorf("%d deeds", w.Deeds())
	}
	wantTick(t, w, 0, 0, 60001)
}

// What was saved is there wherever the power fails, and however often, in Return too.
func TestP9SavedIsThere(t *testing.T) {
	t.Parallel()
	r := rand.New(rand.NewSource(10))
	k := newKeeper(t, api.MinSectors)
	saved(3)(k)
	for fall := range 3000 {
		k.at = fmt.Sprintf("fall %d", fall)
		k.d.Fuse(r.Intn(25), r.Intn(65536), r.Intn(1200))
		for k.d.On() {
			k.saveAll(countUp(r.Intn(3), 1+r.Intn(5))...)
		}
		for r.Intn(3) > 0 {
			k.d.Restart()
			k.d.Fuse(r.Intn(3), r.Intn(65536), r.Intn(1200))
			k.back()
			if k.d.On() {
				break
			}
		}
		k.goOn()
		if k.w.Deeds() < k.now.safe {
			k.fail("%d deeds, %d were safe", k.w.Deeds(), k.now.safe)
		}
	}
	if k.w.Deeds() < 3000 {
		t.Errorf("%d deeds", k.w.Deeds())
	}
	k.prove()
}
