package must

import (
	"math"
	"slices"
	"strings"
	"testing"

	"alibi/api"
	"alibi/prog"
	"alibi/script"
	"alibi/text"
)

// every is the set of all 32 ids.
const every = math.MaxUint32

// dice are numbers that follow a rule, but look as if they didn't.
type dice uint32

// below answers the next number below n.
func (d *dice) below(n int) int {
	*d = *d*1664525 + 1013904223
	return int(*d>>8) % n
}

// set answers a set of some ids, few or many, some of them no locks of any program.
func (d *dice) set() uint32 {
	m := uint32(0)
	for range d.below(4) {
		m |= 1 << d.below(4)
	}
	switch d.below(12) {
	case 0:
		m |= 1 << d.below(32)
	case 1:
		m = ^m
	}
	return m
}

// parsed answers the program of a text, whose lines are parted by commas.
func parsed(t *testing.T, s string) api.Program {
	t.Helper()
	p, line, e := text.Parse(strings.ReplaceAll(s, ", ", "\n"))
	if e != api.OK {
		t.Fatalf("%q, line %d: %d", s, line, e)
	}
	return p
}

// tell answers a section that tells some locks to be held at its nodes.
func tell(entry, exit uint32, held ...uint32) api.Section {
	return api.Section{Entry: entry, Exit: exit, Held: held, Live: make([]uint32, len(held))}
}

// tellAll answers sections that tell some locks everywhere.
func tellAll(p api.Program, m func() uint32) []api.Section {
	var l []api.Section
	for _, nodes := range p.Funcs {
		s := tell(m(), m())
		for range nodes {
			s.Held, s.Live = append(s.Held, m()), append(s.Live, 0)
		}
		l = append(l, s)
	}
	return l
}

// refused are programs that may not be, each with chapter 5's error.
func refused() map[api.Errno][]api.Program {
	ret := []api.Node{{Kind: api.Return}}
	of := func(l ...api.Node) api.Program {
		return api.Program{Globals: 1, Locks: 1, Slots: 1, Funcs: [][]api.Node{append(l, ret...), ret}}
	}
	return map[api.Errno][]api.Program{
		api.ErrArg: {
			{}, {Globals: -1, Funcs: [][]api.Node{ret}}, {Locks: -1, Funcs: [][]api.Node{ret}}, {Slots: math.MinInt, Funcs: [][]api.Node{ret}},
			{Locks: 1, Funcs: [][]api.Node{{{Kind: api.Lock}}, nil}}, {Funcs: [][]api.Node{{}}}, {Funcs: [][]api.Node{nil, ret}},
		},
		api.ErrLong: {
			{Globals: 17, Funcs: [][]api.Node{ret}}, {Locks: 17, Funcs: [][]api.Node{ret}}, {Slots: 9, Funcs: [][]api.Node{ret}},
			{Funcs: make([][]api.Node, 17)}, {Funcs: slices.Repeat([][]api.Node{ret}, 33)}, {Funcs: [][]api.Node{make([]api.Node, 65)}},
			{Globals: math.MaxInt, Locks: math.MaxInt, Slots: math.MaxInt, Funcs: [][]api.Node{ret}},
		},
		api.ErrForm: {
			of(api.Node{Kind: 10}), of(api.Node{Kind: -1}), of(api.Node{Next: 2}), of(api.Node{Next: -1}), of(api.Node{Kind: api.Lock, Arg: 1}),
			of(api.Node{Kind: api.Unlock, Arg: -1}), of(api.Node{Kind: api.Branch, Alt: math.MaxInt}), of(api.Node{Kind: api.Spawn, Arg: 2}),
			of(api.Node{Kind: api.Spawn, Alt: 1}), of(api.Node{Kind: api.Call, Arg: 2}), of(api.Node{Kind: api.Call, Arg: math.MinInt}),
		},
		api.ErrRound: {
			of(api.Node{Kind: api.Call}), of(api.Node{Kind: api.Lock}, api.Node{Kind: api.Call}),
			{Funcs: [][]api.Node{ret, {{Kind: api.Call, Arg: 1}}}}, // which nobody calls
			{Funcs: [][]api.Node{ret, {{Kind: api.Return}, {Kind: api.Call, Arg: 2}}, {{Kind: api.Return}, {Kind: api.Call, Arg: 1}}}},
		},
	}
}

// areShaped tells, by the chapter's words, whether sections are shaped.
func areShaped(p api.Program, l []api.Section) bool {
	wrong := len(l) - len(p.Funcs)
	for f := 0; wrong == 0 && f < len(l); f++ {
		held, live := len(l[f].Held)-len(p.Funcs[f]), len(l[f].Live)-len(p.Funcs[f])
		wrong = held*held + live*live
	}
	return wrong == 0
}

// has tells whether an id is in a set.
func has(m uint32, id int) bool { return m>>id&1 == 1 }

// within tells whether what is in a set is in another one.
func within(a, b uint32) bool {
	for id := range 32 {
		if has(a, id) && !has(b, id) {
			return false
		}
	}
	return true
}

// threadBegins tells whether a thread begins with a function.
func threadBegins(p api.Program, f int) bool {
	for _, nodes := range p.Funcs {
		if slices.ContainsFunc(nodes, func(n api.Node) bool { return n.Kind == 5 && n.Arg == f }) {
			return true
		}
	}
	return f == 0
}

// unlocksOf answers, of each function, which locks it may give back: what it gives back itself, and, again and again, what those give back that it calls.
func unlocksOf(p api.Program) []uint32 {
	l := make([]uint32, len(p.Funcs))
	for range p.Funcs { // calls go no deeper
		for f, nodes := range p.Funcs {
			for _, n := range nodes {
				if n.Kind == 4 {
					l[f] |= 1 << n.Arg
				}
				if n.Kind == 7 {
					l[f] |= l[n.Arg]
				}
			}
		}
	}
	return l
}

// heldBehind answers what is held behind a node, lock by lock.
func heldBehind(l []api.Section, unlocks []uint32, n api.Node, held uint32) uint32 {
	m := uint32(0)
	for lock := range 32 {
		is := has(held, lock)
		switch n.Kind {
		case 3:
			is = is || n.Arg == lock
		case 4:
			is = is && n.Arg != lock
		case 7:
			is = is && !has(unlocks[n.Arg], lock) || has(l[n.Arg].Exit, lock)
		}
		if is {
			m |= 1 << lock
		}
	}
	return m
}

// wrongs answers all that is wrong, in the chapter's order, with sections of a program that may be.
func wrongs(p api.Program, l []api.Section) []api.Fault {
	if !areShaped(p, l) {
		return []api.Fault{{Func: -1, Node: -1, What: 1}}
	}
	var all []api.Fault
	unlocks := unlocksOf(p)
	add := func(is bool, f, at, what int) {
		if is {
			all = append(all, api.Fault{Func: f, Node: at, What: what})
		}
	}
	for f, nodes := range p.Funcs {
		add(threadBegins(p, f) && l[f].Entry > 0, f, -1, 2)
		add(!within(l[f].Held[0], l[f].Entry), f, -1, 3)
		for at, n := range nodes {
			held := l[f].Held[at]
			behind := heldBehind(l, unlocks, n, held)
			add(n.Kind == 7 && !within(l[n.Arg%len(l)].Entry, held), f, at, 5)
			add(n.Kind == 9 && !within(l[f].Exit, held), f, at, 4)
			add(n.Kind != 9 && !within(l[f].Held[n.Next], behind) || n.Kind == 8 && !within(l[f].Held[n.Alt], behind), f, at, 3)
		}
	}
	return all
}

// check holds what is told of sections against what should be.
func check(t *testing.T, p api.Program, l []api.Section, want api.Fault, wantErr api.Errno) {
	t.Helper()
	if fault, e := Check(p, l); fault != want || e != wantErr {
		t.Fatalf("Check(%v, %b) = %v, %d, not %v, %d", p, l, fault, e, want, wantErr)
	}
}

// checkSections holds what is told of sections against the chapter's words; it answers all that is wrong, and whether the program may be.
func checkSections(t *testing.T, p api.Program, l []api.Section) ([]api.Fault, bool) {
	t.Helper()
	if is, want := Shaped(p, l), areShaped(p, l); is != want {
		t.Fatalf("Shaped(%v, %b) = %t", p, l, is)
	}
	if _, _, e := prog.Check(p); e != api.OK {
		check(t, p, l, api.Fault{}, e)
		return nil, false
	}
	all := wrongs(p, l)
	check(t, p, l, append(all, api.Fault{})[0], api.OK)
	return all, true
}

// settle takes locks away from sections that are shaped, until nothing is wrong.
func settle(p api.Program, l []api.Section) {
	changed, unlocks := true, unlocksOf(p)
	lower := func(m *uint32, to uint32) {
		changed = changed || !within(*m, to)
		*m &= to
	}
	for changed {
		changed = false
		for f, nodes := range p.Funcs {
			if threadBegins(p, f) {
				lower(&l[f].Entry, 0)
			}
			lower(&l[f].Held[0], l[f].Entry)
			for at, n := range nodes {
				held := l[f].Held[at]
				if n.Kind == 9 {
					lower(&l[f].Exit, held)
					continue
				}
				if n.Kind == 7 {
					lower(&l[n.Arg].Entry, held)
				}
				lower(&l[f].Held[n.Next], heldBehind(l, unlocks, n, held))
				if n.Kind == 8 {
					lower(&l[f].Held[n.Alt], held)
				}
			}
		}
	}
}

// along goes along a script, and answers how often a thread had locks that are told at its node, and how often it lacked one.
func along(p api.Program, l []api.Section, picks []api.Pick) (had, lacked int) {
	for _, c := range script.Along(p, picks) {
		for i, thread := range c.Threads {
			if !c.Lives(i) {
				continue
			}
			place := thread.Stack[len(thread.Stack)-1]
			told := l[place.Func].Held[place.Node]
			if !within(told, c.Held(i)) {
				lacked++
			} else if told != 0 {
				had++
			}
		}
	}
	return had, lacked
}

// anyPicks answers a script of so many picks of a few threads, as dice fall.
func anyPicks(d *dice, count int) []api.Pick {
	l, threads := make([]api.Pick, count), 1+d.below(4)
	for i := range l {
		l[i] = api.Pick{Who: d.below(threads), Way: d.below(2) == 0}
	}
	return l
}

// anyNode answers a node that may be there, of as many nodes, as dice fall, of one of some kinds; it calls nobody.
func anyNode(d *dice, p api.Program, size int, kinds []int) api.Node {
	for {
		n := api.Node{Kind: kinds[d.below(len(kinds))], Arg: d.below(16), Next: d.below(size), Alt: d.below(max(size, 8))}
		if n.Kind == api.Skip || n.Kind > api.Call {
			n.Arg = 0
		}
		if n.Kind != api.Spawn && n.Kind != api.Branch {
			n.Alt = 0
		}
		if n.Kind == api.Return {
			n.Next = 0
		}
		if prog.May(p, n, size) {
			return n
		}
	}
}

// anyProgram answers a program that may be, of so many functions, whose calls may lead from any of them to any other one, as dice fall.
func anyProgram(d *dice, funcs int) api.Program {
	p := api.Program{Globals: 1 + d.below(2), Locks: 1 + d.below(4), Slots: 1 + d.below(2), Funcs: make([][]api.Node, funcs)}
	rank := make([]int, funcs) // who is called has a greater one
	for f := range rank {
		rank[f] = f
	}
	for f := range rank {
		g := f + d.below(funcs-f)
		rank[f], rank[g] = rank[g], rank[f]
	}
	kinds, calls := []int{0, 1, 2, 3, 3, 3, 4, 4, 5, 6, 8, 9}, 1+d.below(6)
	if d.below(2) == 0 {
		kinds = []int{0, 3, 3, 3, 4, 8, 9}
	}
	for f := range p.Funcs {
		size := 1 + d.below(5)
		straight := d.below(2) == 0 // so that it ends, if its last node does
		for at := range size {
			n := anyNode(d, p, size, kinds)
			if g := d.below(funcs); d.below(calls) == 0 && rank[g] > rank[f] {
				n = api.Node{Kind: api.Call, Arg: g, Next: d.below(size)}
			}
			if straight && at == size-1 {
				n = api.Node{Kind: api.Return}
			}
			if straight && n.Kind != api.Return {
				n.Next = at + 1
			}
			p.Funcs[f] = append(p.Funcs[f], n)
		}
	}
	return p
}
