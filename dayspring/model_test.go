package dayspring_test

import (
	"math/rand"
	"slices"
	"strings"
	"testing"

	"dayspring/api"
	"dayspring/dayspring"
)

// code makes a script of its bytes; a short number may stand as it is.
func code(bytes ...int) string {
	s := make([]byte, len(bytes))
	for i, b := range bytes {
		s[i] = byte(b)
	}
	return string(s)
}

func times(n int, script string) string { return strings.Repeat(script, n) }

// addings says for each instruction what it adds: nothing, a number, a place, a cell, a text.
const addings = "-n-----------ppp-cc--tttt"

// modelRight is a plain telling of which scripts are right.
func modelRight(s string) bool {
	starts := []int{}
	at := 0
	for at < len(s) {
		starts = append(starts, at)
		switch {
		case int(s[at]) >= len(addings):
			return false
		case addings[s[at]] == '-':
			at++
		default:
			at += 2
		}
	}
	starts = append(starts, len(s))
	if at != len(s) || len(s) > 200 {
		return false
	}
	for _, at := range starts[:len(starts)-1] {
		switch addings[s[at]] {
		case 'p':
			if !slices.Contains(starts, int(s[at+1])) {
				return false
			}
		case 'c':
			if s[at+1] > 15 {
				return false
			}
		case 't':
			if s[at+1] > 3 {
				return false
			}
		}
	}
	return true
}

// model is a plain telling of a world: a run works on a copy, which counts if it ends well.
type model struct {
	script string
	cells  [16]int64
	texts  [4]string
	deeds  int
}

type modelRun struct {
	model
	input int64
	stack []int64
	back  []int
	out   []int64
}

func (m *model) load(script string) {
	m.script = script
	m.deeds++
}

func (m *model) tick(input int64) api.Told {
	m.deeds++
	r := modelRun{model: *m, input: input}
	trap := r.run()
	if trap != 0 {
		return api.Told{Trap: trap}
	}
	m.cells, m.texts = r.cells, r.texts
	return api.Told{Out: r.out}
}

// effects says how many numbers each instruction needs on the stack, and how many more it leaves.
var effects = [25][2]int{
	api.Push: {0, 1}, api.Dup: {1, 1}, api.Drop: {1, -1}, api.Swap: {2, 0},
	api.Add: {2, -1}, api.Sub: {2, -1}, api.Mul: {2, -1}, api.Div: {2, -1}, api.Mod: {2, -1}, api.Less: {2, -1}, api.Same: {2, -1},
	api.Not: {1, 0}, api.Zero: {1, -1}, api.Load: {0, 1}, api.Store: {1, -1}, api.Input: {0, 1}, api.Out: {1, -1},
	api.Put: {1, -1}, api.Len: {0, 1}, api.At: {1, 0},
}

// trap tells by which trap an instruction would end the run, ahead of doing it.
func (r *modelRun) trap(op byte, arg int) int {
	n := len(r.stack)
	if n < effects[op][0] || n+effects[op][1] > 12 {
		return 2
	}
	switch op {
	case api.Call:
		if len(r.back) == 6 {
			return 3
		}
	case api.Div, api.Mod:
		if r.stack[n-1] == 0 {
			return 4
		}
	case api.Put:
		if len(r.texts[arg]) == 24 {
			return 5
		}
	case api.At:
		if i := r.stack[n-1]; i < 0 || i > int64(len(r.texts[arg]))-1 {
			return 5
		}
	case api.Out:
		if len(r.out) == 8 {
			return 6
		}
	}
	return 0
}

func (r *modelRun) run() int {
	at := 0
	for steps := 0; at < len(r.script); steps++ {
		if steps == 400 {
			return 1
		}
		op, arg, behind := r.script[at], 0, at+1
		if addings[op] != '-' {
			arg, behind = int(r.script[at+1]), at+2
		}
		if trap := r.trap(op, arg); trap != 0 {
			return trap
		}
		at = r.do(op, arg, behind)
	}
	return 0
}

func (r *modelRun) pop() int64 {
	x := r.stack[len(r.stack)-1]
	r.stack = r.stack[:len(r.stack)-1]
	return x
}

func (r *modelRun) push(x int64) { r.stack = append(r.stack, x) }

func (r *modelRun) pushIf(yes bool) {
	if yes {
		r.push(1)
	} else {
		r.push(0)
	}
}

// do does an instruction that does not trap, and gives the place at which the run goes on.
func (r *modelRun) do(op byte, arg, behind int) int {
	switch op {
	case api.Halt:
		return len(r.script)
	case api.Push:
		if arg > 127 {
			arg -= 256
		}
		r.push(int64(arg))
	case api.Dup:
		r.push(r.stack[len(r.stack)-1])
	case api.Drop:
		r.pop()
	case api.Swap:
		n := len(r.stack)
		r.stack[n-1], r.stack[n-2] = r.stack[n-2], r.stack[n-1]
	case api.Not:
		r.pushIf(r.pop() == 0)
	case api.Jump:
		return arg
	case api.Zero:
		if r.pop() == 0 {
			return arg
		}
	case api.Call:
		r.back = append(r.back, behind)
		return arg
	case api.Ret:
		if len(r.back) == 0 {
			return len(r.script)
		}
		to := r.back[len(r.back)-1]
		r.back = r.back[:len(r.back)-1]
		return to
	case api.Load:
		r.push(r.cells[arg])
	case api.Store:
		r.cells[arg] = r.pop()
	case api.Input:
		r.push(r.input)
	case api.Out:
		r.out = append(r.out, r.pop())
	case api.Put:
		r.texts[arg] += string([]byte{byte(r.pop())})
	case api.Len:
		r.push(int64(len(r.texts[arg])))
	case api.At:
		r.push(int64(r.texts[arg][r.pop()]))
	case api.Wipe:
		r.texts[arg] = ""
	default:
		r.two(op)
	}
	return behind
}

func (r *modelRun) two(op byte) {
	b := r.pop()
	a := r.pop()
	switch op {
	case api.Add:
		r.push(a + b)
	case api.Sub:
		r.push(a - b)
	case api.Mul:
		r.push(a * b)
	case api.Div:
		r.push(a / b)
	case api.Mod:
		r.push(a - a/b*b)
	case api.Less:
		r.pushIf(a < b)
	case api.Same:
		r.pushIf(a == b)
	}
}

func sameTold(a, b api.Told) bool { return a.Trap == b.Trap && slices.Equal(a.Out, b.Out) }

func wantWorld(t *testing.T, w *dayspring.World, m *model, at string) {
	t.Helper()
	if w.Deeds() != m.deeds {
		t.Fatalf("%s: %d deeds, want %d", at, w.Deeds(), m.deeds)
	}
	for i, want := range m.cells {
		if n, e := w.Cell(i); n != want || e != api.OK {
			t.Fatalf("%s: Cell(%d) = %d, %d, want %d", at, i, n, e, want)
		}
	}
	for i, want := range m.texts {
		if s, e := w.Text(i); s != want || e != api.OK {
			t.Fatalf("%s: Text(%d) = %q, %d, want %q", at, i, s, e, want)
		}
	}
}

// randomInstruction takes mostly one for which a stack of that depth is right: else nearly all runs would trap at once.
func randomInstruction(r *rand.Rand, depth int) byte {
	for {
		op := byte(r.Intn(len(effects)))
		if r.Intn(4) == 0 {
			op = []byte{api.Out, api.Put, api.Store, api.At}[r.Intn(4)]
		}
		right := depth >= effects[op][0] && depth+effects[op][1] <= api.MaxStack
		rare := op == api.Halt || op == api.Ret
		if (right || r.Intn(30) == 0) && (!rare || r.Intn(4) == 0) {
			return op
		}
	}
}

// randomScript gives a right one.
func randomScript(r *rand.Rand) string {
	room := r.Intn(api.MaxScript + 1)
	if r.Intn(3) > 0 {
		room = r.Intn(30)
	}
	var b []byte
	var starts, places []int
	depth := 0
	for len(b) < room-1 {
		op := randomInstruction(r, depth)
		depth = max(depth+effects[op][1], 0)
		starts = append(starts, len(b))
		switch b = append(b, op); addings[op] {
		case 'n':
			b = append(b, byte([]int{0, 1, 2, 65, 127, 128, 255, r.Intn(256)}[r.Intn(8)]))
		case 'p':
			places = append(places, len(b))
			b = append(b, 0)
		case 'c':
			b = append(b, byte(r.Intn(3)*7))
		case 't':
			b = append(b, byte(r.Intn(2)*3))
		}
	}
	starts = append(starts, len(b))
	for _, p := range places {
		b[p] = byte(starts[r.Intn(len(starts))])
	}
	return string(b)
}

func randomInput(r *rand.Rand) int64 {
	switch r.Intn(4) {
	case 0:
		return int64(r.Intn(5)) - 2
	case 1:
		return []int64{-1 << 63, 1<<63 - 1, 1 << 32, 255, 256, -1 << 32}[r.Intn(6)]
	}
	return int64(r.Uint64())
}
