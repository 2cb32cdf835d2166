package must

import (
	"math"
	"slices"
	"testing"

	"alibi/api"
	"alibi/prog"
)

// fine is no fault.
var fine = api.Fault{}

// 15.1: of any program, and any sections.
func TestShapes(t *testing.T) {
	nodes := func(sizes ...int) api.Program {
		p := api.Program{Locks: -1}
		for _, n := range sizes {
			p.Funcs = append(p.Funcs, make([]api.Node, n))
		}
		return p
	}
	sets := func(sizes ...int) []api.Section { // of Held and of Live, by turns
		var l []api.Section
		for i := 0; i < len(sizes); i += 2 {
			l = append(l, api.Section{Entry: every, Held: make([]uint32, sizes[i]), Live: make([]uint32, sizes[i+1])})
		}
		return l
	}
	for _, c := range []struct {
		p    api.Program
		l    []api.Section
		want bool
	}{
		{nodes(1), sets(1, 1), true},
		{nodes(), nil, true},
		{nodes(), []api.Section{}, true},
		{nodes(0), sets(0, 0), true},
		{nodes(0), []api.Section{{}}, true},
		{nodes(3, 1, 64), sets(3, 3, 1, 1, 64, 64), true},
		{nodes(3, 0, 99), sets(3, 3, 0, 0, 99, 99), true},
		{nodes(slices.Repeat([]int{2}, 40)...), sets(slices.Repeat([]int{2}, 80)...), true},
		// sections that are too few, or too many
		{nodes(1), nil, false},
		{nodes(), sets(0, 0), false},
		{nodes(), sets(1, 1), false},
		{nodes(0), nil, false},
		{nodes(1), sets(1, 1, 1, 1), false},
		{nodes(1, 1), sets(1, 1), false},
		{nodes(1, 0), sets(1, 1), false},
		{nodes(1), sets(1, 1, 0, 0), false},
		// sets that are too few, or too many, first and last
		{nodes(1), sets(0, 1), false},
		{nodes(1), sets(1, 0), false},
		{nodes(1), sets(0, 0), false},
		{nodes(1), sets(2, 1), false},
		{nodes(1), sets(1, 2), false},
		{nodes(1), sets(2, 2), false},
		{nodes(2), sets(1, 3), false},
		{nodes(2), sets(3, 1), false},
		{nodes(0), sets(1, 0), false},
		{nodes(0), sets(0, 1), false},
		{nodes(3, 1, 2), sets(2, 3, 1, 1, 2, 2), false},
		{nodes(3, 1, 2), sets(3, 4, 1, 1, 2, 2), false},
		{nodes(3, 1, 2), sets(3, 3, 1, 1, 3, 2), false},
		{nodes(3, 1, 2), sets(3, 3, 1, 1, 2, 1), false},
		{nodes(3, 1, 2), sets(3, 3, 2, 2, 1, 1), false}, // as many in all
		{nodes(3, 1), sets(1, 1, 3, 3), false},          // of another order
	} {
		if is := Shaped(c.p, c.l); is != c.want || areShaped(c.p, c.l) != c.want {
			t.Errorf("Shaped(%v, %v) = %t", c.p, c.l, is)
		}
	}
}

// 15.2: what is wrong first, and where.
func TestByHand(t *testing.T) {
	for _, c := range []struct {
		lines string
		l     []api.Section
		want  api.Fault
	}{
		{"alibi 0 0 0, func, return", []api.Section{tell(0, 0, 0)}, fine},
		{"alibi 0 1 0, func, return", []api.Section{tell(0, 0, 1)}, api.Fault{Func: 0, Node: -1, What: api.BadHeld}}, // the chapter's example
		{"alibi 0 1 0, func, return", []api.Section{tell(0, 1, 0)}, api.Fault{What: api.BadExit}},
		{"alibi 0 1 0, func, return", []api.Section{tell(0, 1, 1)}, api.Fault{Node: -1, What: api.BadHeld}},
		{"alibi 0 1 0, func, return", []api.Section{tell(1, 1, 1)}, api.Fault{Node: -1, What: api.BadEntry}},
		{"alibi 0 1 0, func, return", nil, api.Fault{Func: -1, Node: -1, What: api.BadShape}},
		{"alibi 0 1 0, func, return", []api.Section{{}}, api.Fault{Func: -1, Node: -1, What: api.BadShape}},
		{"alibi 0 1 0, func, return", []api.Section{{Entry: 1, Exit: 1, Held: []uint32{1}}}, api.Fault{Func: -1, Node: -1, What: api.BadShape}},
		{"alibi 0 1 0, func, return, func, return", []api.Section{tell(1, 1, 1), tell(0, 0)}, api.Fault{Func: -1, Node: -1, What: api.BadShape}},

		// an Entry: of the function 0, of one that is begun (by itself, or where nobody comes to), and of others
		{"alibi 0 1 0, func, return, func, return", []api.Section{tell(0, 0, 0), tell(1, 1, 1)}, fine},
		{"alibi 0 1 0, func, return, func, return", []api.Section{tell(1, 0, 0), tell(0, 0, 0)}, api.Fault{Node: -1, What: api.BadEntry}},
		{"alibi 0 1 1, func, spawn 1 0 1, return, func, return", []api.Section{tell(0, 0, 0, 0), tell(1, 0, 0)}, api.Fault{Func: 1, Node: -1, What: api.BadEntry}},
		{"alibi 0 1 1, func, spawn 1 0 1, return, func, return", []api.Section{tell(0, 0, 0, 0), tell(0, 0, 0)}, fine},
		{"alibi 0 1 1, func, return, func, return, spawn 1 0 0", []api.Section{tell(0, 0, 0), tell(1<<31, 0, 0, 0)}, api.Fault{Func: 1, Node: -1, What: api.BadEntry}},
		{"alibi 0 1 1, func, return, func, return, func, spawn 1 0 0", []api.Section{tell(0, 0, 0), tell(0, 0, 0), tell(1, 0, 1)}, fine},
		{"alibi 0 1 1, func, return, func, return, func, spawn 1 0 0", []api.Section{tell(0, 0, 0), tell(1, 0, 1), tell(1, 0, 1)}, api.Fault{Func: 1, Node: -1, What: api.BadEntry}},
		{"alibi 0 1 1, func, lock 0 1, spawn 1 0 2, call 1 3, return, func, return", []api.Section{tell(0, 1, 0, 1, 1, 1), tell(1, 1, 1)}, api.Fault{Func: 1, Node: -1, What: api.BadEntry}}, // it is called, too
		{"alibi 0 1 0, func, return, func, call 0 1, return", []api.Section{tell(1, 1, 1), tell(1, 1, 1, 1)}, api.Fault{Node: -1, What: api.BadEntry}},                                       // the function 0 is called
		{"alibi 0 1 0, func, return, func, call 0 1, return", []api.Section{tell(0, 0, 0), tell(1, 1, 1, 1)}, fine},

		// what is held at the node 0, and at the entry
		{"alibi 0 2 0, func, return, func, return", []api.Section{tell(0, 0, 0), tell(1, 0, 3)}, api.Fault{Func: 1, Node: -1, What: api.BadHeld}},
		{"alibi 0 2 0, func, return, func, return", []api.Section{tell(0, 0, 0), tell(3, 0, 1)}, fine},
		{"alibi 0 2 0, func, return, func, return", []api.Section{tell(0, 0, 0), tell(3, 3, 1)}, api.Fault{Func: 1, What: api.BadExit}}, // of what is held there, not at the entry
		{"alibi 0 1 0, func, lock 0 0", []api.Section{tell(0, 0, 0)}, fine},
		{"alibi 0 1 0, func, lock 0 0", []api.Section{tell(0, every, 1)}, api.Fault{Node: -1, What: api.BadHeld}},
		{"alibi 0 1 0, func, skip 1, return, lock 0 0", []api.Section{tell(0, 0, 0, 0, every)}, fine},
		{"alibi 0 1 0, func, skip 1, return, lock 0 1", []api.Section{tell(0, 0, 0, 2, every)}, api.Fault{Node: 0, What: api.BadHeld}},

		// a function that never ends may be told to end with any lock, and who calls it to have it
		{"alibi 0 2 0, func, call 1 1, return, func, skip 0", []api.Section{tell(0, every, 0, every), tell(0, every, 0)}, fine},

		// where nobody comes to
		{"alibi 0 2 0, func, return, skip 2, return", []api.Section{tell(0, 0, 0, 2, 2)}, fine},
		{"alibi 0 2 0, func, return, skip 2, return", []api.Section{tell(0, 0, 0, 1, 2)}, api.Fault{Node: 1, What: api.BadHeld}},
		{"alibi 0 2 0, func, return, skip 2, return", []api.Section{tell(0, 2, 0, 2, 2)}, api.Fault{Node: 0, What: api.BadExit}},
		{"alibi 0 2 0, func, lock 1 1, return, return", []api.Section{tell(0, 2, 0, 2, 0)}, api.Fault{Node: 2, What: api.BadExit}}, // each return counts

		// locks that are taken and given back
		{"alibi 0 2 0, func, lock 0 1, lock 1 2, unlock 0 3, return", []api.Section{tell(0, 2, 0, 1, 3, 2)}, fine},
		{"alibi 0 2 0, func, lock 0 1, lock 1 2, unlock 0 3, return", []api.Section{tell(0, 2, 0, 0, 2, 2)}, fine},
		{"alibi 0 2 0, func, lock 0 1, lock 1 2, unlock 0 3, return", []api.Section{tell(0, 2, 0, 1, 3, 3)}, api.Fault{Node: 2, What: api.BadHeld}},
		{"alibi 0 2 0, func, lock 0 1, lock 1 2, unlock 0 3, return", []api.Section{tell(0, 2, 0, 0, 3, 2)}, api.Fault{Node: 1, What: api.BadHeld}},
		{"alibi 0 2 0, func, lock 0 1, lock 1 2, unlock 0 3, return", []api.Section{tell(0, 3, 0, 1, 3, 2)}, api.Fault{Node: 3, What: api.BadExit}},
		{"alibi 0 2 0, func, lock 0 1, lock 1 2, unlock 0 3, return", []api.Section{tell(0, 2, 0, 2, 3, 2)}, api.Fault{Node: 0, What: api.BadHeld}},
		{"alibi 0 2 0, func, unlock 0 1, lock 0 2, return", []api.Section{tell(0, 1, 0, 0, 1)}, fine},

		// a round, and two ways
		{"alibi 0 1 0, func, lock 0 1, skip 0", []api.Section{tell(0, 0, 0, 1)}, fine},
		{"alibi 0 1 0, func, lock 0 1, skip 0, func, skip 0", []api.Section{tell(0, 0, 0, 1), tell(1, 0, 1)}, fine},
		{"alibi 0 1 0, func, branch 1 2, lock 0 2, return", []api.Section{tell(0, 0, 0, 0, 1)}, api.Fault{Node: 0, What: api.BadHeld}},
		{"alibi 0 1 0, func, branch 2 1, lock 0 2, return", []api.Section{tell(0, 0, 0, 0, 1)}, api.Fault{Node: 0, What: api.BadHeld}},
		{"alibi 0 1 0, func, branch 1 2, lock 0 3, lock 0 3, return", []api.Section{tell(0, 1, 0, 0, 0, 1)}, fine},

		// a call
		{"alibi 0 1 0, func, lock 0 1, call 1 2, return, func, return", []api.Section{tell(0, 1, 0, 1, 1), tell(1, 1, 1)}, fine},
		{"alibi 0 1 0, func, lock 0 1, call 1 2, return, func, return", []api.Section{tell(0, 1, 0, 1, 1), tell(0, 0, 0)}, fine}, // it keeps what the callee tells nothing of
		{"alibi 0 1 0, func, lock 0 1, call 1 2, return, func, return", []api.Section{tell(0, 0, 0, 0, 0), tell(1, 1, 1)}, api.Fault{Node: 1, What: api.BadCall}},
		{"alibi 0 2 0, func, lock 0 1, call 1 2, return, func, return", []api.Section{tell(0, 0, 0, 1, 1), tell(3, 0, 0)}, api.Fault{Node: 1, What: api.BadCall}}, // of the entry, not of the node 0
		{"alibi 0 2 0, func, lock 0 1, call 1 2, return, func, return", []api.Section{tell(0, 0, 0, 1, 3), tell(1, 1, 1)}, api.Fault{Node: 1, What: api.BadHeld}},
		{"alibi 0 2 0, func, lock 0 1, call 1 2, return, func, return", []api.Section{tell(0, 0, 0, 1, 3), tell(3, 1, 1)}, api.Fault{Node: 1, What: api.BadCall}}, // ahead of what is held behind it
		{"alibi 0 1 0, func, return, call 1 1, func, return", []api.Section{tell(0, 0, 0, 0), tell(1, 0, 0)}, api.Fault{Node: 1, What: api.BadCall}},              // where nobody comes to

		// a callee that gives back a lock, or ends with one
		{"alibi 0 1 0, func, lock 0 1, call 1 2, return, func, unlock 0 1, return", []api.Section{tell(0, 0, 0, 1, 1), tell(1, 0, 1, 0)}, api.Fault{Node: 1, What: api.BadHeld}},
		{"alibi 0 1 0, func, lock 0 1, call 1 2, return, func, unlock 0 1, return", []api.Section{tell(0, 0, 0, 1, 0), tell(1, 0, 1, 0)}, fine},
		{"alibi 0 1 0, func, lock 0 1, call 1 2, return, func, return, unlock 0 1", []api.Section{tell(0, 0, 0, 1, 1), tell(0, 0, 0, 0)}, api.Fault{Node: 1, What: api.BadHeld}}, // even where nobody comes to
		{"alibi 0 1 0, func, lock 0 1, call 1 2, return, func, return, unlock 0 1", []api.Section{tell(0, 0, 0, 1, 1), tell(1, 1, 1, 0)}, fine},                                  // it ends with it
		{"alibi 0 1 0, func, lock 0 1, call 1 2, return, func, unlock 0 1, lock 0 2, return", []api.Section{tell(0, 1, 0, 1, 1), tell(0, 1, 0, 0, 1)}, fine},
		{"alibi 0 1 0, func, lock 0 1, call 1 2, return, func, unlock 0 1, lock 0 2, return", []api.Section{tell(0, 1, 0, 1, 1), tell(0, 0, 0, 0, 1)}, api.Fault{Node: 1, What: api.BadHeld}},
		{"alibi 0 1 0, func, lock 0 1, call 1 2, return, func, call 2 1, return, func, unlock 0 1, return", []api.Section{tell(0, 0, 0, 1, 1), tell(0, 0, 0, 0), tell(0, 0, 0, 0)}, api.Fault{Node: 1, What: api.BadHeld}},
		{"alibi 0 2 0, func, call 1 1, return, func, lock 1 1, return", []api.Section{tell(0, 2, 0, 2), tell(0, 2, 0, 2)}, fine},
		{"alibi 0 2 0, func, call 1 1, return, func, lock 1 1, return", []api.Section{tell(0, 0, 0, 2), tell(0, 0, 0, 2)}, api.Fault{Node: 0, What: api.BadHeld}},
		{"alibi 0 2 0, func, call 1 1, return, func, lock 1 1, return", []api.Section{tell(0, 0, 2, 2), tell(2, 2, 2, 2)}, api.Fault{Node: -1, What: api.BadHeld}},
		{"alibi 0 3 0, func, lock 0 1, lock 1 2, call 1 3, return, func, unlock 0 1, lock 2 2, return", []api.Section{tell(0, 6, 0, 1, 3, 6), tell(3, 6, 3, 2, 6)}, fine},
		{"alibi 0 1 1, func, lock 0 1, spawn 1 0 2, return, func, unlock 0 1, return", []api.Section{tell(0, 1, 0, 1, 1), tell(0, 0, 0, 0)}, fine}, // who is begun gives nothing back

		// several things at once
		{"alibi 0 1 0, func, return, func, return", []api.Section{tell(0, 1, 0), tell(0, 0, 1)}, api.Fault{Func: 0, Node: 0, What: api.BadExit}},
		{"alibi 0 1 0, func, skip 1, return", []api.Section{tell(0, 1, 0, 1)}, api.Fault{Node: 0, What: api.BadHeld}},
		{"alibi 0 1 0, func, skip 1, return", []api.Section{tell(0, 1, 1, 0)}, api.Fault{Node: -1, What: api.BadHeld}},
		{"alibi 0 1 0, func, skip 1, return", []api.Section{tell(1, 1, 1, 0)}, api.Fault{Node: -1, What: api.BadEntry}},
		{"alibi 0 1 1, func, spawn 1 0 1, return, func, skip 1, return", []api.Section{tell(0, 0, 0, 1), tell(1, 1, 1, 0)}, api.Fault{Node: 0, What: api.BadHeld}},
	} {
		p := parsed(t, c.lines)
		check(t, p, c.l, c.want, api.OK)
		checkSections(t, p, c.l)
	}
}

// 15.2: what is held behind each node, lock by lock.
func TestBehindEachNode(t *testing.T) {
	p := api.Program{Globals: 16, Locks: 16, Slots: 8, Funcs: make([][]api.Node, 16)}
	for f := range p.Funcs {
		p.Funcs[f] = []api.Node{{Kind: api.Return}}
	}
	p.Funcs[5] = []api.Node{{Kind: api.Unlock, Arg: 2, Next: 1}, {Kind: api.Call, Arg: 6, Next: 2}, {Kind: api.Return}}
	p.Funcs[6] = []api.Node{{Kind: api.Lock, Arg: 3, Next: 1}, {Kind: api.Unlock, Arg: 9, Next: 0}} // it never ends
	count := 0
	for kind := range 9 {
		for arg := range 16 {
			n := api.Node{Kind: kind, Arg: arg, Next: 1}
			if !prog.May(p, n, 2) || arg == 15 && kind >= api.Spawn {
				continue
			}
			p.Funcs[15] = []api.Node{n, {Kind: api.Return}}
			for _, held := range []uint32{0, 1, 1 << 2, 1 << 15, 1<<16 - 1, 0xf0f0f0f0, ^uint32(1 << arg), every} {
				for _, exit := range []uint32{0, 1<<2 | 1<<7, every} {
					want := map[int]uint32{api.Lock: held | 1<<arg, api.Unlock: held &^ (1 << arg)}
					behind, other := want[kind]
					if !other {
						behind = held
					}
					if kind == api.Call && arg == 6 {
						behind = held&^(1<<9) | exit
					}
					if kind == api.Call && arg == 5 {
						behind = held &^ (1<<9 | 1<<2)
					}
					l := tellAll(p, func() uint32 { return 0 })
					l[6].Exit = exit
					l[15] = tell(held, 0, held, behind)
					check(t, p, l, fine, api.OK)
					for lock := range 32 {
						l[15].Held[1] = 1 << lock
						fault := fine
						if behind>>lock&1 == 0 {
							fault = api.Fault{Func: 15, Node: 0, What: api.BadHeld}
						}
						check(t, p, l, fault, api.OK)
					}
					count++
				}
			}
		}
	}
	if count != (1+4*16+15+8+15+1)*24 { // Skip; Read, Write, Lock, Unlock; Spawn; Join; Call; Branch
		t.Errorf("only %d", count)
	}
}

// 15.2, 15.3: all functions of two nodes, one that is called, begun or left alone, with all that may be told of one lock.
func TestEachSmallOne(t *testing.T) {
	var nodes []api.Node
	small := api.Program{Locks: 1, Slots: 1, Funcs: make([][]api.Node, 2)}
	for kind := range 10 {
		for i := range 8 {
			n := api.Node{Kind: kind, Arg: i >> 2, Next: i & 1, Alt: i >> 1 & 1}
			if kind != api.Call && prog.May(small, n, 2) {
				nodes = append(nodes, n)
			}
		}
	}
	d, met, had := dice(151), map[int]int{}, 0
	for _, first := range []string{"return, skip 0", "call 1 1, return", "spawn 1 0 1, return"} {
		for a := range nodes {
			for b := range nodes {
				p := parsed(t, "alibi 0 1 1, func, "+first+", func, return")
				p.Funcs[1] = []api.Node{nodes[a], nodes[b]}
				for told := range uint32(1 << 7) {
					bit := func(i int) uint32 { return told >> i & 1 }
					l := []api.Section{tell(0, bit(0), bit(1), bit(2)), tell(bit(3), bit(4), bit(5), bit(6))}
					all, _ := checkSections(t, p, l)
					for _, fault := range append(all, fine)[:1] {
						met[fault.What]++
					}
					if len(all) == 0 {
						h, lacked := along(p, l, anyPicks(&d, 24))
						if had += h; lacked > 0 {
							t.Fatalf("%v: %b is told, and not held", p, l)
						}
					}
				}
			}
		}
	}
	for _, what := range []int{api.Fine, api.BadEntry, api.BadHeld, api.BadExit, api.BadCall} {
		if met[what] < 500 {
			t.Errorf("%d was met only %d times", what, met[what])
		}
	}
	if had < 500 {
		t.Errorf("a lock that is told was held only %d times", had)
	}
}

// 15.2: many programs of up to 16 functions, with sections in which nothing, one set or all may be wrong.
func TestManySections(t *testing.T) {
	d := dice(152)
	met, several := map[int]int{}, 0
	for range 20000 {
		p := anyProgram(&d, 1+d.below(16))
		l := tellAll(p, d.set)
		if d.below(4) > 0 {
			settle(p, l)
			for range d.below(4) {
				tamper(&d, l)
			}
		}
		all, may := checkSections(t, p, l)
		if !may {
			t.Fatalf("%v may not be", p)
		}
		met[append(all, fine)[0].What]++
		if len(all) > 1 && all[0].Func == all[1].Func {
			several++
		}
	}
	for what := api.Fine; what <= api.BadCall; what++ {
		if met[what] < 100 {
			t.Errorf("%d was met only %d times", what, met[what])
		}
	}
	if several < 1000 {
		t.Errorf("only %d times there were two faults in the first function that has one", several)
	}
}

// tamper changes one thing in sections.
func tamper(d *dice, l []api.Section) {
	s := &l[d.below(len(l))]
	at := d.below(max(len(s.Held), 1))
	switch d.below(12) {
	case 0:
		s.Entry ^= 1 << d.below(4)
	case 1:
		s.Exit ^= 1 << d.below(4)
	case 2:
		s.Held = s.Held[:at]
	case 3:
		s.Live = append(s.Live, 0)
	case 4: // the locks that are held hang on nothing of what may live
		s.LiveEntry, s.LiveExit = d.set(), d.set()
		for i := range s.Live {
			s.Live[i] = d.set()
		}
	default:
		if at < len(s.Held) {
			s.Held[at] ^= 1 << d.below(4)
		}
	}
}

// 15.2: the greatest programs, with one fault at the very end, or none.
func TestGreatestPrograms(t *testing.T) {
	p := api.Program{Globals: 16, Locks: 16, Slots: 8, Funcs: make([][]api.Node, 16)}
	for f := range p.Funcs {
		for i := range 63 {
			p.Funcs[f] = append(p.Funcs[f], api.Node{Kind: api.Call, Arg: min(f+1+i, 15), Next: i + 1})
			if f == 15 {
				p.Funcs[f][i] = api.Node{Kind: api.Lock + i/16%2, Arg: i % 16, Next: i + 1}
			}
		}
		p.Funcs[f] = append(p.Funcs[f], api.Node{Kind: api.Return})
	}
	l := tellAll(p, func() uint32 { return every })
	settle(p, l)
	if l[15].Exit != 1<<15 || l[0].Held[63] != 1<<15 || l[0].Exit != 1<<15 { // the last one of all isn't given back
		t.Errorf("%b, %b", l[15].Exit, l[0].Held[63])
	}
	check(t, p, l, fine, api.OK)
	l[15].Exit |= 1
	check(t, p, l, api.Fault{Func: 15, Node: 63, What: api.BadExit}, api.OK)
	l[15].Exit &^= 1
	l[15].Held[63] |= 1
	check(t, p, l, api.Fault{Func: 15, Node: 62, What: api.BadHeld}, api.OK)
	l[15].Live = append(l[15].Live, 0)
	check(t, p, l, api.Fault{Func: -1, Node: -1, What: api.BadShape}, api.OK)
	p.Funcs[15][63] = api.Node{Kind: api.Call}
	check(t, p, l, fine, api.ErrRound)
}

// 15.2: no fault, and chapter 5's error, of what may not be, whatever the sections.
func TestWhatMayNotBe(t *testing.T) {
	for want, programs := range refused() {
		for _, p := range programs {
			if _, _, e := prog.Check(p); e != want {
				t.Fatalf("%v: chapter 5's error is %d, not %d", p, e, want)
			}
			shaped := tellAll(p, func() uint32 { return 0 })
			for _, l := range [][]api.Section{nil, shaped, tellAll(p, func() uint32 { return every }), append(shaped, api.Section{}), make([]api.Section, 40)} {
				check(t, p, l, fine, want)
				checkSections(t, p, l)
			}
		}
	}
}

// 15.1, 15.2: each call ends at whatever is handed in.
func TestWhateverIsHandedIn(t *testing.T) {
	d := dice(153)
	numbers := []int{math.MinInt, math.MinInt32, -33, -1, 0, 1, 2, 15, 16, 31, 32, 64, 1 << 32, 1<<32 + 1, math.MaxInt}
	errors := map[api.Errno]int{}
	for range 20000 {
		p := anyProgram(&d, 1+d.below(5))
		for range 1 + d.below(3) {
			f := d.below(len(p.Funcs))
			n := &p.Funcs[f][d.below(len(p.Funcs[f]))]
			field := []*int{&n.Kind, &n.Arg, &n.Next, &n.Alt, &p.Globals, &p.Locks, &p.Slots}[d.below(7)]
			*field = d.below(4)
			if d.below(3) == 0 {
				*field = numbers[d.below(len(numbers))]
			}
		}
		l := tellAll(p, d.set)
		tamper(&d, l)
		checkSections(t, p, l)
		checkSections(t, p, l[:d.below(len(l))])
		_, e := Check(p, l)
		errors[e]++
	}
	for _, e := range []api.Errno{api.OK, api.ErrArg, api.ErrForm, api.ErrLong, api.ErrRound} {
		if errors[e] < 50 {
			t.Errorf("%d was answered only %d times", e, errors[e])
		}
	}
	many := make([]api.Section, 1<<20)
	check(t, api.Program{Funcs: make([][]api.Node, 1<<20)}, many, fine, api.ErrLong)
	if !Shaped(api.Program{Funcs: make([][]api.Node, 1<<20)}, many) {
		t.Error("as many as there are functions, without nodes")
	}
	check(t, parsed(t, "alibi 0 0 0, func, return"), many, api.Fault{Func: -1, Node: -1, What: api.BadShape}, api.OK)
	check(t, parsed(t, "alibi 0 0 0, func, return"), []api.Section{{Held: make([]uint32, 1<<20), Live: make([]uint32, 1)}}, api.Fault{Func: -1, Node: -1, What: api.BadShape}, api.OK)
}

// 15.3: what would be lacked, if a fault weren't one: each of these has just one, and a script on which a lock that is told isn't held.
func TestFaultsMatter(t *testing.T) {
	once := make([]api.Pick, 8)
	both := []api.Pick{{Who: 0}, {Who: 0}, {Who: 1}, {Who: 1}, {Who: 0}, {Who: 0}}
	for _, c := range []struct {
		lines string
		l     []api.Section
		picks []api.Pick
		want  api.Fault
	}{
		{"alibi 0 1 0, func, return", []api.Section{tell(1, 0, 1)}, once, api.Fault{Node: -1, What: api.BadEntry}},
		{"alibi 0 1 1, func, lock 0 1, spawn 1 0 2, return, func, return", []api.Section{tell(0, 0, 0, 1, 1), tell(1, 0, 1)}, both, api.Fault{Func: 1, Node: -1, What: api.BadEntry}},
		{"alibi 0 1 0, func, return", []api.Section{tell(0, 0, 1)}, once, api.Fault{Node: -1, What: api.BadHeld}},
		{"alibi 0 1 0, func, skip 1, return", []api.Section{tell(0, 0, 0, 1)}, once, api.Fault{Node: 0, What: api.BadHeld}},
		{"alibi 0 1 0, func, lock 0 1, unlock 0 2, return", []api.Section{tell(0, 0, 0, 1, 1)}, once, api.Fault{Node: 1, What: api.BadHeld}},
		{"alibi 0 1 0, func, branch 1 2, lock 0 2, return", []api.Section{tell(0, 0, 0, 0, 1)}, []api.Pick{{Way: true}}, api.Fault{Node: 0, What: api.BadHeld}},
		{"alibi 0 1 0, func, lock 0 1, call 1 2, return, func, unlock 0 1, return", []api.Section{tell(0, 0, 0, 1, 1), tell(1, 0, 1, 0)}, once, api.Fault{Node: 1, What: api.BadHeld}},
		{"alibi 0 1 0, func, call 1 1, return, func, return", []api.Section{tell(0, 0, 0, 0), tell(1, 0, 1)}, once, api.Fault{Node: 0, What: api.BadCall}},
		{"alibi 0 1 0, func, call 1 1, return, func, return", []api.Section{tell(0, 0, 0, 1), tell(0, 1, 0)}, once, api.Fault{Func: 1, What: api.BadExit}},
	} {
		p := parsed(t, c.lines)
		all, _ := checkSections(t, p, c.l)
		if _, lacked := along(p, c.l, c.picks); lacked == 0 || len(all) != 1 || all[0] != c.want {
			t.Errorf("%s: %v, and lacked %d times", c.lines, all, lacked)
		}
	}
}

// 15.3: threads along scripts have the locks that are told, where there is no fault, even if all is told that may be, or what was told was changed.
func TestManyScripts(t *testing.T) {
	d := dice(154)
	had, faultless, lackedAny := 0, 0, 0
	for i := range 12000 {
		p := anyProgram(&d, 2+d.below(4))
		l := tellAll(p, func() uint32 { return every })
		if i%3 > 0 {
			l = tellAll(p, d.set)
		}
		settle(p, l)
		if all, _ := checkSections(t, p, l); len(all) > 0 {
			t.Fatalf("%v, %b: %v", p, l, all)
		}
		if i%3 == 2 {
			l[d.below(len(l))].Held[0] ^= 1 << d.below(p.Locks)
			l[d.below(len(l))].Exit ^= 1 << d.below(p.Locks)
		}
		fault, _ := Check(p, l)
		h, lacked := along(p, l, anyPicks(&d, 60))
		if fault != fine {
			lackedAny += lacked
			continue
		}
		if lacked > 0 {
			t.Fatalf("%v: %b is told, and not held", p, l)
		}
		had += h
		faultless++
	}
	if had < 10000 || faultless < 8000 || lackedAny < 1000 {
		t.Errorf("what is told was held %d times, %d were without fault, what was wrong was lacked %d times", had, faultless, lackedAny)
	}
}
