package script

import "dayspring/api"

const none = 0 // no trap

// run is one that is under way.
type run struct {
	memory *Memory
	script string
	input  int64
	at     int
	stack  []int64
	calls  []int // where RET comes back to
	out    []int64
}

// toEnd does one instruction after the other, and gives the trap, if there is one.
func (r *run) toEnd() int {
	for done := 0; r.at < len(r.script); done++ {
		if done == api.Fuel {
			return api.TrapFuel
		}
		if trap := r.step(); trap != none {
			return trap
		}
	}
	return none
}

// step takes off what the next instruction needs, b ahead of a, and does it.
func (r *run) step() int {
	op, arg := r.next()
	var a, b int64
	switch op {
	case api.Swap, api.Add, api.Sub, api.Mul, api.Div, api.Mod, api.Less, api.Same:
		if len(r.stack) < 2 {
			return api.TrapStack
		}
		b = r.take()
		fallthrough
	case api.Dup, api.Drop, api.Not, api.Zero, api.Store, api.Out, api.Put, api.At:
		if len(r.stack) < 1 {
			return api.TrapStack
		}
		a = r.take()
		fallthrough
	default:
		return r.do(op, arg, a, b)
	}
}

// next reads an instruction, and goes on behind it.
func (r *run) next() (byte, int) {
	op, arg := r.script[r.at], 0
	if size(op) == 2 {
		arg = int(r.script[r.at+1])
	}
	r.at += size(op)
	return op, arg
}

func (r *run) take() int64 {
	top := r.stack[len(r.stack)-1]
	r.stack = r.stack[:len(r.stack)-1]
	return top
}

// lay lays numbers on the stack, the last of them topmost.
func (r *run) lay(numbers ...int64) int {
	if len(r.stack)+len(numbers) > api.MaxStack {
		return api.TrapStack
	}
	r.stack = append(r.stack, numbers...)
	return none
}

// end ends the run well, as coming to the script's length does.
func (r *run) end() { r.at = len(r.script) }

// do does an instruction for which a and b were taken off, as far as it needs them.
func (r *run) do(op byte, arg int, a, b int64) int {
	switch op {
	case api.Swap:
		return r.lay(b, a)
	case api.Add, api.Sub, api.Mul, api.Less, api.Same:
		return r.lay(reckon(op, a, b))
	case api.Div, api.Mod:
		if b == 0 {
			return api.TrapZero
		}
		return r.lay(reckon(op, a, b))
	case api.Dup:
		return r.lay(a, a)
	case api.Not:
		return r.lay(truth(a == 0))
	case api.Store:
		r.memory.cells.set(arg, a)
	case api.Out:
		return r.tell(a)
	case api.Put, api.At, api.Len, api.Wipe:
		return r.doText(op, arg, a)
	case api.Push:
		return r.lay(int64(int8(arg)))
	case api.Load:
		return r.lay(r.memory.cells.now[arg])
	case api.Input:
		return r.lay(r.input)
	case api.Zero, api.Jump, api.Call, api.Ret, api.Halt:
		return r.doPlace(op, arg, a)
	}
	return none
}

// reckon makes one number of two. For DIV and MOD b must not be 0.
func reckon(op byte, a, b int64) int64 {
	switch op {
	case api.Add:
		return a + b
	case api.Sub:
		return a - b
	case api.Mul:
		return a * b
	case api.Div:
		return a / b
	case api.Mod:
		return a % b
	case api.Less:
		return truth(a < b)
	}
	return truth(a == b)
}

func truth(holds bool) int64 {
	if holds {
		return 1
	}
	return 0
}

func (r *run) tell(a int64) int {
	if len(r.out) == api.MaxOut {
		return api.TrapOut
	}
	r.out = append(r.out, a)
	return none
}

// doText does an instruction that names a text.
func (r *run) doText(op byte, n int, a int64) int {
	t := r.memory.texts.now[n]
	switch op {
	case api.Put:
		if t.size == api.MaxText {
			return api.TrapCell
		}
		r.memory.texts.set(n, t.with(byte(a)))
	case api.At:
		if a < 0 || a >= int64(t.size) {
			return api.TrapCell
		}
		return r.lay(int64(t.bytes[a]))
	case api.Len:
		return r.lay(int64(t.size))
	case api.Wipe:
		r.memory.texts.set(n, words{})
	}
	return none
}

// doPlace does an instruction by which the run goes on elsewhere.
func (r *run) doPlace(op byte, to int, a int64) int {
	switch op {
	case api.Zero:
		if a != 0 {
			return none
		}
		fallthrough
	case api.Jump:
		r.at = to
	case api.Call:
		if len(r.calls) == api.MaxCalls {
			return api.TrapCalls
		}
		r.calls = append(r.calls, r.at)
		r.at = to
	case api.Ret:
		if len(r.calls) == 0 {
			r.end()
			return none
		}
		r.at = r.calls[len(r.calls)-1]
		r.calls = r.calls[:len(r.calls)-1]
	case api.Halt:
		r.end()
	}
	return none
}
