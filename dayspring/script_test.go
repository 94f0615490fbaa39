package dayspring_test

import (
	"math"
	"math/rand"
	"slices"
	"strings"
	"testing"

	"dayspring/api"
	"dayspring/dayspring"
)

func wantCheck(t *testing.T, script string, right bool) {
	t.Helper()
	want := api.ErrScript
	if right {
		want = api.OK
	}
	if e := dayspring.Check(script); e != want {
		t.Errorf("Check(%q) = %d, want %d", script, e, want)
	}
}

func TestP5Lengths(t *testing.T) {
	for _, n := range []int{0, 1, api.MaxScript - 1, api.MaxScript} {
		wantCheck(t, times(n, code(api.Input)), true)
	}
	wantCheck(t, times(api.MaxScript/2, code(api.Push, api.Push)), true)
	for _, n := range []int{api.MaxScript + 1, api.MaxScript + 2, 256, 1 << 16} {
		wantCheck(t, times(n, code(api.Input)), false)
	}
	wantCheck(t, times(api.MaxScript/2, code(api.Push, 0))+code(api.Push), false)
	wantCheck(t, times(api.MaxScript-1, code(api.Input))+code(api.Push), false)
	wantCheck(t, strings.Repeat("é", api.MaxScript), false)
}

func TestP5EveryShortScript(t *testing.T) {
	for a := range 256 {
		wantCheck(t, code(a), a < 25 && addings[a] == '-')
		for b := range 256 {
			wantCheck(t, code(a, b), modelRight(code(a, b)))
			wantCheck(t, code(api.Input, a, b), modelRight(code(api.Input, a, b)))
			wantCheck(t, code(api.Push, a, b), modelRight(code(api.Push, a, b)))
			wantCheck(t, code(a, b, api.Input), modelRight(code(a, b, api.Input)))
		}
	}
}

func TestP5CutOff(t *testing.T) {
	for op := range 25 {
		whole := addings[op] == '-'
		wantCheck(t, code(api.Push, 5, api.Out, op), whole)
		wantCheck(t, code(api.Push, 5, api.Out, op, 0), true)
	}
}

func TestP5Places(t *testing.T) {
	for _, op := range []int{api.Jump, api.Zero, api.Call} {
		for place := range 256 {
			// Begins are 0, 2, 3, 5, 7; the length is 8.
			script := code(api.Push, api.Halt, api.Dup, op, place, api.Store, api.Not, api.Out)
			wantCheck(t, script, slices.Contains([]int{0, 2, 3, 5, 7, 8}, place))
			longest := code(op, place) + times(api.MaxScript-2, code(api.Halt))
			wantCheck(t, longest, place != 1 && place <= api.MaxScript)
			pairs := times(api.MaxScript/2-1, code(api.Push, api.Halt)) + code(op, place)
			wantCheck(t, pairs, place%2 == 0 && place <= api.MaxScript)
		}
	}
	// A place may lie ahead as well as behind, and many may be the same.
	wantCheck(t, code(api.Jump, 6, api.Jump, 0, api.Jump, 4), true)
	wantCheck(t, code(api.Jump, 6, api.Jump, 0, api.Jump, 5), false)
}

func TestP5CellsAndTexts(t *testing.T) {
	for n := range 256 {
		for _, op := range []int{api.Load, api.Store} {
			wantCheck(t, code(op, n), n < 16)
		}
		for _, op := range []int{api.Put, api.Len, api.At, api.Wipe} {
			wantCheck(t, code(op, n), n < 4)
		}
		wantCheck(t, code(api.Push, n), true)
	}
}

// What is never come to must be right all the same.
func TestP5BehindTheEndOfTheRun(t *testing.T) {
	wantCheck(t, code(api.Halt, 25), false)
	wantCheck(t, code(api.Halt, api.Load, 16), false)
	wantCheck(t, code(api.Jump, 4, 255, 255), false)
	wantCheck(t, code(api.Halt, api.Load, 15), true)
}

func TestP5AgainstTheModel(t *testing.T) {
	r := rand.New(rand.NewSource(5))
	right := 0
	for range 60000 {
		b := []byte(randomScript(r))
		if len(b) > 0 && r.Intn(2) == 0 {
			b[r.Intn(len(b))] = byte(r.Intn(30))
		}
		if len(b) > 0 && r.Intn(8) == 0 {
			b = b[:len(b)-1]
		}
		if modelRight(string(b)) {
			right++
		}
		wantCheck(t, string(b), modelRight(string(b)))
	}
	if right < 20000 || right > 55000 {
		t.Errorf("%d of the scripts were right: the test says little", right)
	}
}

func newWorld(t *testing.T, script string) *dayspring.World {
	t.Helper()
	w, e := dayspring.Found(newDisk(t, api.MinSectors))
	if w == nil || e != api.OK {
		t.Fatalf("Found = %v, %d", w, e)
	}
	wantErrno(t, "Load", w.Load(script), api.OK)
	return w
}

func wantTick(t *testing.T, w *dayspring.World, input int64, trap int, out ...int64) {
	t.Helper()
	told, e := w.Tick(input)
	if e != api.OK || !sameTold(told, api.Told{Trap: trap, Out: out}) {
		t.Errorf("Tick(%d) = %+v, %d, want trap %d, %v", input, told, e, trap, out)
	}
}

func wantRun(t *testing.T, script string, input int64, trap int, out ...int64) {
	t.Helper()
	told, e := newWorld(t, script).Tick(input)
	if e != api.OK || !sameTold(told, api.Told{Trap: trap, Out: out}) {
		t.Errorf("%q with %d: %+v, %d, want trap %d, %v", script, input, told, e, trap, out)
	}
}

func wantCell(t *testing.T, w *dayspring.World, n int, want int64) {
	t.Helper()
	if got, e := w.Cell(n); got != want || e != api.OK {
		t.Errorf("Cell(%d) = %d, %d, want %d", n, got, e, want)
	}
}

func wantText(t *testing.T, w *dayspring.World, n int, want string) {
	t.Helper()
	if got, e := w.Text(n); got != want || e != api.OK {
		t.Errorf("Text(%d) = %q, %d, want %q", n, got, e, want)
	}
}

func TestP6Examples(t *testing.T) {
	w := newWorld(t, code(17, 0, 1, 1, 5, 2, 18, 0, 20))
	for i := range int64(3) {
		wantTick(t, w, 100-i, 0, i+1)
	}
	wantCell(t, w, 0, 3)
	w = newWorld(t, code(api.Input, api.Zero, 5, api.Push, 7, api.Input, api.Div, api.Out))
	wantTick(t, w, 2, 0, 3)
	wantTick(t, w, 0, api.TrapStack)
	wantRun(t, code(api.Jump, 0), 9, api.TrapFuel)
	w = newWorld(t, code(api.Push, 65, api.Put, 0))
	for i := range 30 {
		if i < 24 {
			wantTick(t, w, 0, 0)
		} else {
			wantTick(t, w, 0, api.TrapCell)
		}
	}
	wantText(t, w, 0, strings.Repeat("A", 24))
	w = newWorld(t, code(api.Push, 4, api.Store, 1))
	wantTick(t, w, 0, 0)
	w.Load(code(api.Push, 9, api.Store, 1, api.Push, 0, api.Push, 0, api.Div))
	wantTick(t, w, 0, api.TrapZero)
	wantCell(t, w, 1, 4)
}

func TestP6Numbers(t *testing.T) {
	for b := range 256 {
		wantRun(t, code(api.Push, b, api.Out), 0, 0, int64(int8(b)))
	}
	const least, most = math.MinInt64, math.MaxInt64
	// The input is a; b is a short number.
	for _, c := range []struct {
		op   int
		a    int64
		b    int
		want int64
	}{
		{api.Add, 3, 4, 7}, {api.Add, 3, -4, -1}, {api.Add, most, 1, least}, {api.Add, least, -1, most},
		{api.Sub, 3, 4, -1}, {api.Sub, 3, -4, 7}, {api.Sub, least, 1, most}, {api.Sub, most, -1, least},
		{api.Mul, 3, -4, -12}, {api.Mul, 1 << 62, 2, least}, {api.Mul, 1 << 62, 4, 0}, {api.Mul, least, -1, least}, {api.Mul, most, 2, -2},
		{api.Div, 7, 2, 3}, {api.Div, -7, 2, -3}, {api.Div, 7, -2, -3}, {api.Div, -7, -2, 3}, {api.Div, 1, 2, 0}, {api.Div, -1, 2, 0}, {api.Div, 0, 5, 0},
		{api.Div, least, -1, least}, {api.Div, least, 1, least}, {api.Div, most, -1, -most},
		{api.Mod, 7, 3, 1}, {api.Mod, -7, 3, -1}, {api.Mod, 7, -3, 1}, {api.Mod, -7, -3, -1}, {api.Mod, 6, 3, 0}, {api.Mod, least, -1, 0}, {api.Mod, least, 10, -8},
		{api.Less, 1, 2, 1}, {api.Less, 2, 2, 0}, {api.Less, 3, 2, 0}, {api.Less, least, 0, 1}, {api.Less, most, -1, 0}, {api.Less, -2, -1, 1},
		{api.Same, 2, 2, 1}, {api.Same, -2, 2, 0}, {api.Same, 1 << 32, 0, 0}, {api.Same, 1<<32 + 5, 5, 0}, {api.Same, -128, -128, 1},
	} {
		wantRun(t, code(api.Input, api.Push, c.b, c.op, api.Out), c.a, 0, c.want)
	}
	for _, c := range [][2]int64{{0, 1}, {1, 0}, {-1, 0}, {1 << 32, 0}, {least, 0}} {
		wantRun(t, code(api.Input, api.Not, api.Out), c[0], 0, c[1])
	}
	wantRun(t, code(api.Input, api.Out), least, 0, least)
}

func TestP6Stack(t *testing.T) {
	wantRun(t, code(api.Push, 1, api.Push, 2, api.Dup, api.Out, api.Out, api.Out), 0, 0, 2, 2, 1)
	wantRun(t, code(api.Push, 1, api.Push, 2, api.Drop, api.Out), 0, 0, 1)
	wantRun(t, code(api.Push, 1, api.Push, 2, api.Push, 3, api.Swap, api.Out, api.Out, api.Out), 0, 0, 2, 3, 1)
	fill := times(api.MaxStack, code(api.Input))
	wantRun(t, fill, 5, 0)
	wantRun(t, times(api.MaxStack-1, code(api.Input))+code(api.Dup), 5, 0)
	// What takes off as many as it lays on, or more, has room on a full stack.
	for _, op := range []int{api.Drop, api.Swap, api.Add, api.Sub, api.Mul, api.Div, api.Mod, api.Less, api.Same, api.Not} {
		wantRun(t, fill+code(op), 5, 0)
	}
	wantRun(t, code(api.Push, 7, api.Put, 2)+fill+code(api.At, 2, api.Out), 0, 0, 7)
	wantRun(t, fill+code(api.Wipe, 2, api.Jump, 16, api.Call, 18, api.Store, 1), 5, 0)
	for _, more := range []string{code(api.Input), code(api.Push, 0), code(api.Dup), code(api.Load, 3), code(api.Len, 3)} {
		wantRun(t, fill+more, 5, api.TrapStack)
		wantRun(t, fill[1:]+more, 5, 0)
	}
}

// Each instruction ends well with the numbers that it takes off, and traps with less.
func TestP6NumbersThatAreNotThere(t *testing.T) {
	begin := code(api.Push, 1, api.Put, 0) // AT has a byte to find
	numbers := []string{"", code(api.Push, 0), code(api.Push, 0, api.Push, 1)}
	for op, effect := range effects {
		for have := range effect[0] + 1 {
			script := begin + numbers[have] + code(op)
			switch addings[op] {
			case 'p':
				script += code(len(script) + 1)
			case 'n', 'c', 't':
				script += code(0)
			}
			want := api.TrapStack
			if have == effect[0] {
				want = 0
			}
			told, e := newWorld(t, script).Tick(0)
			if told.Trap != want || e != api.OK {
				t.Errorf("%q: %+v, %d, want trap %d", script, told, e, want)
			}
		}
	}
}

func TestP6Places(t *testing.T) {
	tell := func(n int) string { return code(api.Push, n, api.Out) }
	wantRun(t, code(api.Jump, 5)+tell(1)+tell(2), 0, 0, 2)
	wantRun(t, code(api.Jump, 5)+tell(1), 0, 0)
	zero := code(api.Input, api.Zero, 6) + tell(1) + tell(2)
	wantRun(t, zero, 0, 0, 2)
	for _, input := range []int64{1, -1, 1 << 32, math.MinInt64} {
		wantRun(t, zero, input, 0, 1, 2)
	}
	wantRun(t, tell(1)+code(api.Halt)+tell(2), 0, 0, 1)
	wantRun(t, tell(1)+code(api.Ret)+tell(2), 0, 0, 1)
	// CALL at 0 of the place 6, behind it tell(1) and HALT.
	wantRun(t, code(api.Call, 6)+tell(1)+code(api.Halt)+tell(2)+code(api.Ret)+tell(3), 0, 0, 2, 1)
	// Calls within calls come back in turn; the last RET has none to come back from.
	wantRun(t, code(api.Call, 6)+tell(1)+code(api.Ret)+code(api.Call, 12)+tell(2)+code(api.Ret)+tell(3)+code(api.Ret), 0, 0, 3, 2, 1)
	// A CALL that comes to the script's length ends the run, whatever has not come back.
	wantRun(t, code(api.Call, 5)+tell(1), 0, 0)
	wantRun(t, code(api.Call, 2)+tell(1), 0, 0, 1)
}

func TestP6Calls(t *testing.T) {
	deep := func(n int) string {
		s := ""
		for i := range n {
			s += code(api.Call, 2*i+2)
		}
		return s
	}
	wantRun(t, deep(api.MaxCalls), 0, 0)
	wantRun(t, deep(api.MaxCalls+1), 0, api.TrapCalls)
	// One that has come back does not count: ten calls, one behind the other, of a RET.
	wantRun(t, times(10, code(api.Call, 21))+code(api.Halt, api.Ret), 0, 0)
	wantRun(t, deep(api.MaxCalls-1)+code(api.Call, 14, api.Call, 14, api.Ret), 0, 0)
	wantRun(t, deep(api.MaxCalls)+code(api.Call, 16, api.Call, 16, api.Ret), 0, api.TrapCalls)
	wantRun(t, code(api.Call, 0), 0, api.TrapCalls)
}

func TestP6Cells(t *testing.T) {
	for n := range api.Cells {
		w := newWorld(t, code(api.Input, api.Store, n))
		wantTick(t, w, -5-int64(n), 0)
		for k := range api.Cells {
			if k == n {
				wantCell(t, w, k, -5-int64(n))
			} else {
				wantCell(t, w, k, 0)
			}
		}
		w.Load(code(api.Load, n, api.Out))
		wantTick(t, w, 0, 0, -5-int64(n))
	}
}

func TestP6Texts(t *testing.T) {
	for n := range api.Texts {
		w := newWorld(t, code(api.Input, api.Put, n, api.Len, n, api.Out))
		wantTick(t, w, 0x141, 0, 1)
		wantTick(t, w, -1, 0, 2)
		wantTick(t, w, math.MinInt64, 0, 3)
		for k := range api.Texts {
			if k == n {
				wantText(t, w, k, "A\xff\x00")
			} else {
				wantText(t, w, k, "")
			}
		}
		w.Load(code(api.Input, api.At, n, api.Out))
		wantTick(t, w, 0, 0, 65)
		wantTick(t, w, 1, 0, 255)
		wantTick(t, w, 2, 0, 0)
		for _, i := range []int64{3, -1, 24, 256, 1 << 32, math.MinInt64, math.MaxInt64} {
			wantTick(t, w, i, api.TrapCell)
		}
		w.Load(code(api.Wipe, n, api.Len, n, api.Out))
		wantTick(t, w, 0, 0, 0)
		wantText(t, w, n, "")
		w.Load(code(api.Push, 0, api.At, n))
		wantTick(t, w, 0, api.TrapCell)
	}
	put := code(api.Input, api.Put, 1)
	w := newWorld(t, times(api.MaxText, put))
	wantTick(t, w, 66, 0)
	wantText(t, w, 1, strings.Repeat("B", api.MaxText))
	wantRun(t, times(api.MaxText+1, put), 66, api.TrapCell)
	wantRun(t, times(api.MaxText, put)+code(api.Wipe, 1)+times(api.MaxText, put)+code(api.Len, 1, api.Out), 66, 0, 24)
}

func TestP6Told(t *testing.T) {
	tell := code(api.Dup, api.Out)
	wantRun(t, code(api.Input)+times(api.MaxOut, tell), 3, 0, 3, 3, 3, 3, 3, 3, 3, 3)
	wantRun(t, code(api.Input)+times(api.MaxOut+1, tell), 3, api.TrapOut)
	w := newWorld(t, code(api.Input, api.Out, api.Input, api.Zero, 6, api.Drop))
	wantTick(t, w, 1, api.TrapStack)
	wantTick(t, w, 0, 0, 0) // nothing that the trapped run told is told again
}

// spent gives a script that does so many instructions, 8 to 400, and then what is laid behind it.
func spent(instructions int) string {
	turn := code(api.Load, 0, api.Push, 1, api.Add, api.Dup, api.Store, 0, api.Push, instructions/8, api.Same, api.Zero, 0)
	return turn + times(instructions%8, code(api.Wipe, 3))
}

func TestP6Fuel(t *testing.T) {
	for _, n := range []int{8, 15, 392, 399, 400} {
		wantRun(t, spent(n), 0, 0)
	}
	wantRun(t, code(api.Jump, 0), 0, api.TrapFuel)
	// The instruction number 400 is done, whatever it is, and none behind it.
	for _, c := range []struct {
		last string
		trap int
	}{
		{code(api.Halt), 0}, {code(api.Ret), 0}, {code(api.Jump, len(spent(399))+2), 0}, {code(api.Input), 0},
		{code(api.Drop), api.TrapStack}, {code(api.Jump, 0), api.TrapFuel}, {code(api.Call, 0), api.TrapFuel},
	} {
		wantRun(t, spent(399)+c.last, 0, c.trap)
	}
	for _, one := range []string{code(api.Halt), code(api.Ret), code(api.Jump, len(spent(400))+2), code(api.Input), code(api.Drop), code(api.Swap), code(api.Wipe, 0), code(api.Div)} {
		wantRun(t, spent(400)+one, 0, api.TrapFuel)
	}
	// Each run has its fuel.
	w := newWorld(t, times(100, code(api.Input, api.Drop)))
	for range 5 {
		wantTick(t, w, 0, 0)
	}
	// A run that has no fuel left has changed nothing.
	w = newWorld(t, spent(400)+code(api.Halt))
	wantTick(t, w, 0, api.TrapFuel)
	wantCell(t, w, 0, 0)
}

func TestP6EachTrapAlone(t *testing.T) {
	for _, c := range []struct {
		script string
		trap   int
	}{
		{code(api.Jump, 0), 1}, {code(api.Drop), 2}, {code(api.Call, 0), 3},
		{code(api.Push, 0, api.Dup, api.Div), 4}, {code(api.Push, 5, api.Push, 0, api.Mod), 4},
		{code(api.Push, 0, api.At, 1), 5}, {code(api.Push, 0, api.Dup, api.Put, 0, api.Jump, 2), 5},
		{code(api.Input, api.Out, api.Jump, 0), 6},
	} {
		wantRun(t, c.script, 0, c.trap)
	}
}

// Of two traps of one instruction the one with the least number comes.
func TestP6WhichTrapComes(t *testing.T) {
	fill := times(api.MaxText, code(api.Input, api.Put, 0))
	wantRun(t, fill+code(api.Put, 0), 0, api.TrapStack)
	wantRun(t, fill+code(api.Input, api.Put, 0), 0, api.TrapCell)
	told := times(api.MaxOut, code(api.Input, api.Out))
	wantRun(t, told+code(api.Out), 0, api.TrapStack)
	wantRun(t, told+code(api.Input, api.Out), 0, api.TrapOut)
	wantRun(t, code(api.Push, 0, api.Div), 0, api.TrapStack)
	wantRun(t, code(api.Push, 0, api.Mod), 0, api.TrapStack)
	wantRun(t, code(api.At, 0), 0, api.TrapStack)
	wantRun(t, spent(400)+code(api.Call, 0), 0, api.TrapFuel)
	wantRun(t, code(api.Push, 0, api.Dup)+strings.Replace(spent(392), code(api.Zero, 0), code(api.Zero, 3), 1)+times(5, code(api.Wipe, 0))+code(api.Div), 0, api.TrapZero)
	wantRun(t, code(api.Push, 0, api.Dup)+strings.Replace(spent(392), code(api.Zero, 0), code(api.Zero, 3), 1)+times(6, code(api.Wipe, 0))+code(api.Div), 0, api.TrapFuel)
	// Of two instructions the first one's comes, though its number is greater.
	wantRun(t, told+code(api.Input, api.Out, api.Drop), 0, api.TrapOut)
	wantRun(t, code(api.Push, 0, api.Push, 0, api.Div, api.Drop, api.Drop, api.Drop), 0, api.TrapZero)
}

func TestP6ATrapChangesNothing(t *testing.T) {
	traps := []string{
		code(api.Jump, 0), code(api.Drop), code(api.Call, 0), code(api.Push, 0, api.Push, 0, api.Div),
		code(api.Push, 100, api.At, 3), code(api.Push, 1, api.Put, 2, api.Jump, 0), code(api.Push, 1, api.Out, api.Jump, 0),
	}
	changes := []string{
		code(api.Push, 9, api.Store, 0), code(api.Push, 9, api.Store, 0, api.Push, 8, api.Store, 0),
		code(api.Push, 9, api.Store, 0, api.Push, 5, api.Store, 0), // as it was ahead of the run
		code(api.Push, 9, api.Store, 0, api.Push, 5, api.Store, 0, api.Push, 7, api.Store, 0),
		code(api.Push, 5, api.Store, 0, api.Push, 4, api.Store, 0),
		code(api.Push, 66, api.Put, 0), code(api.Wipe, 0), code(api.Wipe, 0, api.Push, 65, api.Put, 0),
		code(api.Wipe, 0, api.Push, 65, api.Put, 0, api.Push, 65, api.Put, 0), code(api.Wipe, 1, api.Push, 66, api.Put, 1),
		code(api.Input, api.Store, 15, api.Wipe, 3, api.Input, api.Put, 2, api.Input, api.Out),
	}
	for _, change := range changes {
		for _, trap := range traps {
			if trap[0] == api.Jump || trap[0] == api.Call {
				trap = code(int(trap[0]), len(change))
			}
			if len(trap) > 4 && trap[4] == api.Jump {
				trap = trap[:5] + code(len(change))
			}
			w := newWorld(t, code(api.Push, 5, api.Store, 0, api.Push, 65, api.Put, 0, api.Push, 66, api.Put, 3))
			wantTick(t, w, 0, 0)
			wantErrno(t, "Load", w.Load(change+trap), api.OK)
			for range 3 {
				told, e := w.Tick(7)
				if told.Trap == 0 || len(told.Out) != 0 || e != api.OK {
					t.Errorf("%q: %+v, %d", change+trap, told, e)
				}
				m := model{cells: [16]int64{5}, texts: [4]string{"A", "", "", "B"}, deeds: w.Deeds()}
				wantWorld(t, w, &m, "a trap")
			}
			// The same changes stay, if the run ends well.
			m := model{cells: [16]int64{5}, texts: [4]string{"A", "", "", "B"}, deeds: w.Deeds()}
			w.Load(change)
			m.load(change)
			wantTick(t, w, 7, 0, m.tick(7).Out...)
			wantWorld(t, w, &m, "the changes")
			// And a trap behind them undoes its own changes alone.
			w.Load(code(api.Push, 77, api.Store, 1, api.Drop))
			m.load(code(api.Push, 77, api.Store, 1, api.Drop))
			wantTick(t, w, 7, m.tick(7).Trap)
			wantWorld(t, w, &m, "a trap behind them")
		}
	}
}

func TestP6AgainstTheModel(t *testing.T) {
	r := rand.New(rand.NewSource(6))
	var traps [7]int
	told := 0
	for range 400 {
		w, e := dayspring.Found(newDisk(t, api.MinSectors+r.Intn(81)))
		wantErrno(t, "Found", e, api.OK)
		m := &model{}
		for range 40 {
			if r.Intn(4) == 0 {
				script := randomScript(r)
				wantErrno(t, "Load", w.Load(script), api.OK)
				m.load(script)
			}
			for range 1 + r.Intn(4) {
				input := randomInput(r)
				want := m.tick(input)
				got, e := w.Tick(input)
				if !sameTold(got, want) || e != api.OK {
					t.Fatalf("%q with %d: %+v, %d, want %+v", m.script, input, got, e, want)
				}
				traps[want.Trap]++
				told += len(want.Out)
			}
			wantWorld(t, w, m, m.script)
		}
	}
	if slices.Min(traps[:]) < 20 || told < 1000 {
		t.Errorf("traps: %v, told: %d: the test says little", traps, told)
	}
}
