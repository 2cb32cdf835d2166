package kill

import (
	"slices"
	"testing"

	"alibi/api"
	"alibi/prog"
)

// some is a program of which something is told of each function.
func some(t *testing.T) api.Program {
	t.Helper()
	return parsed(t, "alibi 2 2 1, func, call 1 1, unlock 0 2, read 0 3, return, func, unlock 1 1, write 1 2, spawn 2 0 3, return, func, return")
}

// checkSome holds all that is told of that program against what should be.
func checkSome(t *testing.T) {
	t.Helper()
	check(t, some(t), []uint32{3, 2, 0}, []uint32{3, 2, 0}, 3, api.OK)
}

// What is handed in isn't changed, spare room included.
func TestNothingHandedInIsChanged(t *testing.T) {
	p, kept := some(t), some(t)
	for f, l := range p.Funcs {
		p.Funcs[f] = append(slices.Clone(l), api.Node{Kind: 99})[:len(l)]
	}
	spare := []api.Node{{Kind: 98}}
	p.Funcs = append(p.Funcs, spare)[:len(p.Funcs)]
	check(t, p, []uint32{3, 2, 0}, []uint32{3, 2, 0}, 3, api.OK)
	for f, l := range p.Funcs {
		if l[:len(l)+1][len(l)] != (api.Node{Kind: 99}) {
			t.Errorf("room of the function %d was changed", f)
		}
	}
	if last := p.Funcs[:len(p.Funcs)+1][len(p.Funcs)]; !slices.Equal(last, spare) || !prog.Same(p, kept) {
		t.Errorf("%v became %v", kept, p)
	}
}

// 14.1: what is handed out is new memory, spare room included; what was handed in isn't kept.
func TestAnswersAreNewMemory(t *testing.T) {
	for _, ask := range []func(api.Program) ([]uint32, api.Errno){Unlocks, Touches} {
		p := some(t)
		first, _ := ask(p)
		for range 3 {
			l, _ := ask(p)
			l = l[:cap(l)]
			for i := range l {
				l[i] = 99
			}
			Unlocks(p)
			Touches(p)
			Begins(p)
		}
		for _, l := range p.Funcs {
			clear(l)
		}
		if !slices.Equal(first, []uint32{3, 2, 0}) {
			t.Errorf("answers share memory: %b", first)
		}
		checkSome(t)
	}
}

// What a call answers hangs on its arguments alone: refused calls, and those of others, leave nothing behind.
func TestNothingIsKept(t *testing.T) {
	checkSome(t)
	for _, programs := range refused() {
		for _, p := range programs {
			Unlocks(p)
			Touches(p)
			Begins(p)
			checkSome(t)
		}
	}
	d := dice(144)
	for range 50 {
		checkProgram(t, anyProgram(&d, 16))
		checkSome(t)
	}
}
