// Package script: what scripts mean, which of them are right, and how they run.
package script

import "dayspring/api"

// added is what an instruction adds to its byte.
type added int

const (
	unknown added = iota // no instruction has this byte
	nothing
	number
	place
	cell
	text
)

func adds(op byte) added {
	switch op {
	case api.Push:
		return number
	case api.Jump, api.Zero, api.Call:
		return place
	case api.Load, api.Store:
		return cell
	case api.Put, api.Len, api.At, api.Wipe:
		return text
	}
	if op <= api.Wipe {
		return nothing
	}
	return unknown
}

// size tells how many bytes an instruction has.
func size(op byte) int {
	if adds(op) == nothing {
		return 1
	}
	return 2
}

// begins marks where an instruction begins, and the script's length.
type begins [api.MaxScript + 1]bool

// Check tells whether a script is right.
func Check(script string) api.Errno {
	if len(script) > api.MaxScript {
		return api.ErrScript
	}
	marks, whole := parts(script)
	if !whole {
		return api.ErrScript
	}
	for at := 0; at < len(script); at += size(script[at]) {
		if size(script[at]) == 2 && !fits(script[at], int(script[at+1]), marks) {
			return api.ErrScript
		}
	}
	return api.OK
}

// parts tells where instructions begin, and whether the script is made of whole ones.
func parts(script string) (begins, bool) {
	var marks begins
	at := 0
	for at < len(script) {
		if adds(script[at]) == unknown {
			return begins{}, false
		}
		marks[at] = true
		at += size(script[at])
	}
	if at > len(script) {
		return begins{}, false
	}
	marks[at] = true
	return marks, true
}

// fits tells whether there is what an instruction names by the byte that it adds.
func fits(op byte, n int, marks begins) bool {
	switch adds(op) {
	case place:
		return n < len(marks) && marks[n]
	case cell:
		return n < api.Cells
	case text:
		return n < api.Texts
	}
	return true
}
