package kill

import (
	"math"
	"slices"
	"strings"
	"testing"

	"alibi/api"
	"alibi/prog"
	"alibi/text"
)

// dice are numbers that follow a rule, but look as if they didn't.
type dice uint32

// below answers the next number below n.
func (d *dice) below(n int) int {
	*d = *d*1664525 + 1013904223
	return int(*d>>8) % n
}

// parsed answers the program of a text, whose lines are parted by commas.
func parsed(t *testing.T, s string) api.Program {
	t.Helper()
	p, line, e := text.Parse(strings.ReplaceAll(s, ", ", "\n"))
	if e != api.OK {
		t.Fatalf("%q, line %d: %d", s, line, e)
	}
	return p
}

// refused are programs that may not be, each with chapter 5's error.
func refused() map[api.Errno][]api.Program {
	ret := []api.Node{{Kind: api.Return}}
	of := func(l ...api.Node) api.Program {
		return api.Program{Globals: 1, Locks: 1, Slots: 1, Funcs: [][]api.Node{append(l, ret...), ret}}
	}
	return map[api.Errno][]api.Program{
		api.ErrArg: {
			{}, {Globals: -1, Funcs: [][]api.Node{ret}}, {Locks: -1, Funcs: [][]api.Node{ret}}, {Slots: math.MinInt, Funcs: [][]api.Node{ret}},
			{Locks: 1, Funcs: [][]api.Node{{{Kind: api.Unlock}}, nil}}, {Funcs: [][]api.Node{{}}},
		},
		api.ErrLong: {
			{Globals: 17, Funcs: [][]api.Node{ret}}, {Locks: 17, Funcs: [][]api.Node{ret}}, {Slots: 9, Funcs: [][]api.Node{ret}},
			{Funcs: make([][]api.Node, 17)}, {Funcs: slices.Repeat([][]api.Node{ret}, 33)}, {Funcs: [][]api.Node{make([]api.Node, 65)}},
			{Globals: math.MaxInt, Locks: math.MaxInt, Slots: math.MaxInt, Funcs: [][]api.Node{ret}},
		},
		api.ErrForm: {
			of(api.Node{Kind: 10}), of(api.Node{Kind: -1}), of(api.Node{Next: 2}), of(api.Node{Kind: api.Unlock, Arg: 1}), of(api.Node{Kind: api.Unlock, Arg: -1}),
			of(api.Node{Kind: api.Write, Arg: 32}), of(api.Node{Kind: api.Read, Arg: math.MinInt}), of(api.Node{Kind: api.Spawn, Arg: 2}),
			of(api.Node{Kind: api.Spawn, Alt: 1}), of(api.Node{Kind: api.Call, Arg: 2}), of(api.Node{Kind: api.Call, Arg: math.MaxInt}),
		},
		api.ErrRound: {
			of(api.Node{Kind: api.Call}), of(api.Node{Kind: api.Unlock}, api.Node{Kind: api.Call}),
			{Funcs: [][]api.Node{ret, {{Kind: api.Call, Arg: 1}}}}, // which nobody calls
			{Funcs: [][]api.Node{ret, {{Kind: api.Return}, {Kind: api.Call, Arg: 2}}, {{Kind: api.Return}, {Kind: api.Call, Arg: 1}}}},
		},
	}
}

// mayDo tells, by the chapter's words, whether a function may do what some nodes do; of those that were met it isn't asked again.
func mayDo(p api.Program, f int, does func(api.Node) bool, met map[int]bool) bool {
	met[f] = true
	for _, n := range p.Funcs[f] {
		if does(n) || n.Kind == 7 && !met[n.Arg] && mayDo(p, n.Arg, does, met) {
			return true
		}
	}
	return false
}

// byHand answers what Unlocks, Touches and Begins should.
func byHand(p api.Program) (unlocks, touches []uint32, begins uint32) {
	for f := range p.Funcs {
		var unlock, touch uint32
		for id := range 16 {
			if mayDo(p, f, func(n api.Node) bool { return n.Kind == 4 && n.Arg == id }, map[int]bool{}) {
				unlock |= 1 << id
			}
			if mayDo(p, f, func(n api.Node) bool { return (n.Kind == 1 || n.Kind == 2) && n.Arg == id }, map[int]bool{}) {
				touch |= 1 << id
			}
		}
		if mayDo(p, f, func(n api.Node) bool { return n.Kind == 5 }, map[int]bool{}) {
			begins |= 1 << f
		}
		unlocks, touches = append(unlocks, unlock), append(touches, touch)
	}
	return unlocks, touches, begins
}

// check holds all that is told of a program against what it should be; beside an error nothing is told.
func check(t *testing.T, p api.Program, unlocks, touches []uint32, begins uint32, want api.Errno) {
	t.Helper()
	if l, e := Unlocks(p); e != want || !slices.Equal(l, unlocks) {
		t.Fatalf("Unlocks(%v) = %b, %d, not %b, %d", p, l, e, unlocks, want)
	}
	if l, e := Touches(p); e != want || !slices.Equal(l, touches) {
		t.Fatalf("Touches(%v) = %b, %d, not %b, %d", p, l, e, touches, want)
	}
	if m, e := Begins(p); e != want || m != begins {
		t.Fatalf("Begins(%v) = %b, %d, not %b, %d", p, m, e, begins, want)
	}
}

// checkProgram holds all that is told of a program against the chapter's words; it answers whether it may be.
func checkProgram(t *testing.T, p api.Program) bool {
	t.Helper()
	if _, _, wrong := prog.Check(p); wrong != api.OK {
		check(t, p, nil, nil, 0, wrong)
		return false
	}
	unlocks, touches, begins := byHand(p)
	check(t, p, unlocks, touches, begins, api.OK)
	return true
}

// anyNode answers a node that may be there, of as many nodes, as dice fall, of one of some kinds; it calls nobody.
func anyNode(d *dice, p api.Program, size int, kinds []int) api.Node {
	for {
		n := api.Node{Kind: kinds[d.below(len(kinds))], Arg: d.below(16), Next: d.below(size), Alt: d.below(max(size, 8))}
		if n.Kind == api.Skip || n.Kind > api.Call {
			n.Arg = 0
		}
		if n.Kind != api.Spawn && n.Kind != api.Branch {
			n.Alt = 0
		}
		if n.Kind == api.Return {
			n.Next = 0
		}
		if prog.May(p, n, size) {
			return n
		}
	}
}

// anyProgram answers a program that may be, of so many functions, whose calls may lead from any of them to any other one, as dice fall.
func anyProgram(d *dice, funcs int) api.Program {
	p := api.Program{Globals: 1 + d.below(16), Locks: 1 + d.below(16), Slots: 1 + d.below(8), Funcs: make([][]api.Node, funcs)}
	rank := make([]int, funcs) // who is called has a greater one
	for f := range rank {
		rank[f] = f
	}
	for f := range rank {
		g := f + d.below(funcs-f)
		rank[f], rank[g] = rank[g], rank[f]
	}
	kinds, calls := []int{0, 1, 2, 3, 4, 5, 6, 8, 9}, 1+d.below(6)
	if d.below(2) == 0 {
		kinds = []int{0, 0, 0, 0, 1, 2, 3, 4, 6, 8, 9}
	}
	for f := range p.Funcs {
		size := 1 + d.below(5)
		for range size {
			n := anyNode(d, p, size, kinds)
			if g := d.below(funcs); d.below(calls) == 0 && rank[g] > rank[f] {
				n = api.Node{Kind: api.Call, Arg: g, Next: d.below(size)}
			}
			p.Funcs[f] = append(p.Funcs[f], n)
		}
	}
	return p
}
