package may

import (
	"math"
	"testing"

	"alibi/api"
	"alibi/prog"
)

// fine is no fault.
var fine = api.Fault{}

// 16.1: the number of slots is the id, of whatever program.
func TestLost(t *testing.T) {
	for _, slots := range []int{0, 1, 2, 7, 8, 9, 31, 32, -1, math.MaxInt, math.MinInt} {
		for _, p := range []api.Program{
			{Slots: slots},
			{Globals: 5, Locks: 6, Slots: slots, Funcs: [][]api.Node{{{Kind: api.Return}}}},
			{Globals: -1, Locks: 99, Slots: slots, Funcs: [][]api.Node{nil, {{Kind: 77}}}},
		} {
			if id := Lost(p); id != slots {
				t.Errorf("Lost of %d slots = %d", slots, id)
			}
		}
	}
}

// 16.1: what may live behind a node, and what no id is.
func TestBehindByHand(t *testing.T) {
	spawn := func(slot int) api.Node { return api.Node{Kind: api.Spawn, Arg: 3, Next: 5, Alt: slot} }
	join := func(slot int) api.Node { return api.Node{Kind: api.Join, Arg: slot, Next: 5} }
	for _, c := range []struct {
		n          api.Node
		live, exit uint32
		lost       int
		begins     bool
		want       uint32
	}{
		{spawn(1), 0, 0, 2, false, 2}, // the chapter's example
		{spawn(1), 0, every, 2, false, 2},
		{spawn(1), 1, 0, 2, false, 3},
		{spawn(1), 4, 0, 2, false, 6},
		{spawn(1), 2, 0, 2, false, 6}, // somebody may live in its slot
		{spawn(1), 3, 0, 2, false, 7},
		{spawn(1), 0, 0, 2, true, 6}, // who is begun may begin others
		{spawn(1), 2, 0, 2, true, 6},
		{spawn(0), 0, 0, 8, true, 1<<8 | 1},
		{spawn(7), 1 << 7, 0, 8, false, 1<<8 | 1<<7},
		{spawn(0), every &^ 1, 0, 31, false, every},
		{spawn(0), 1 << 3, 0, 5, false, 1<<3 | 1}, // the function's number is no slot's

		// a slot, and a lost, that is no id
		{spawn(-1), 1, 0, 2, false, 1},
		{spawn(-1), 1, 0, 2, true, 5},
		{spawn(32), 1, 0, 2, false, 1},
		{spawn(32), 1, 0, 2, true, 5},
		{spawn(64), 1, 0, 2, false, 1},
		{spawn(1 << 32), 1, 0, 2, false, 1},
		{spawn(math.MinInt), every, 0, 2, false, every},
		{spawn(math.MaxInt), 0, 0, 2, false, 0},
		{spawn(31), 0, 0, 2, false, 1 << 31},
		{spawn(31), 1 << 31, 0, 2, false, 1<<31 | 4},
		{spawn(1), 2, 0, -1, true, 2},
		{spawn(1), 0, 0, 32, true, 2},
		{spawn(1), 0, 0, 1 << 33, true, 2},
		{spawn(1), 2, 0, math.MaxInt, true, 2},
		{spawn(1), 2, 0, math.MinInt, false, 2},
		{spawn(-1), 0, 0, -1, true, 0},
		{spawn(1), 0, 0, 31, true, 1<<31 | 2},
		{spawn(1), 0, 0, 1, true, 2}, // lost is the slot, too
		{spawn(1), 0, 0, 0, false, 2},

		{join(1), 7, 0, 2, true, 5},
		{join(1), 5, every, 2, true, 5},
		{join(0), 1, 0, 2, false, 0},
		{join(2), 7, 0, 2, false, 3}, // lost, where it is a slot
		{join(31), every, 0, 2, false, every >> 1},
		{join(-1), every, 0, 2, false, every},
		{join(32), every, 0, 2, false, every},
		{join(math.MinInt), 7, 0, 2, false, 7},
		{join(1 << 32), 7, 0, 2, false, 7},
		{api.Node{Kind: api.Join, Arg: 1, Alt: 0}, 3, 0, 2, false, 1}, // its slot is Arg

		{api.Node{Kind: api.Call, Arg: 1}, 7, 0, 2, true, 0},
		{api.Node{Kind: api.Call, Arg: 1}, 0, 9, 2, false, 9},
		{api.Node{Kind: api.Call, Arg: 1, Alt: 1}, 2, every, 2, true, every},
		{api.Node{Kind: api.Call, Arg: -1}, 7, 8, -2, false, 8},

		{api.Node{Kind: api.Skip}, 7, every, 3, true, 7},
		{api.Node{Kind: api.Read, Arg: 1}, 7, every, 3, true, 7},
		{api.Node{Kind: api.Write, Arg: 1}, 7, 0, 3, true, 7},
		{api.Node{Kind: api.Lock, Arg: 1}, 7, 0, 3, true, 7},
		{api.Node{Kind: api.Unlock, Arg: 1}, 7, 0, 3, true, 7},
		{api.Node{Kind: api.Branch, Alt: 1}, 7, 0, 3, true, 7},
		{api.Node{Kind: api.Return}, 7, every, 3, true, 7},
		{api.Node{Kind: 10, Arg: 1, Alt: 1}, 7, every, 3, true, 7},
		{api.Node{Kind: -1, Arg: 1, Alt: 1}, 7, every, 3, true, 7},
		{api.Node{Kind: math.MaxInt, Arg: 1, Alt: 1}, every, 0, 3, true, every},
		{api.Node{Kind: 1<<32 + api.Join, Arg: 1}, 7, 0, 3, true, 7},
	} {
		if m := Behind(c.n, c.live, c.exit, c.lost, c.begins); m != c.want {
			t.Errorf("Behind(%v, %b, %b, %d, %t) = %b, not %b", c.n, c.live, c.exit, c.lost, c.begins, m, c.want)
		}
	}
}

// 16.1: what may live behind nodes of all kinds, and of kinds that there aren't, id by id.
func TestBehindEachNode(t *testing.T) {
	numbers := []int{math.MinInt, -1 << 32, -33, -32, -1, 0, 1, 2, 7, 8, 15, 30, 31, 32, 33, 63, 64, 1 << 32, 1<<32 + 1, math.MaxInt}
	kinds := []int{math.MinInt, -1, 0, 1, 2, 3, 4, 5, 6, 7, 8, 9, 10, 11, 255, 256 + 5, 1<<32 + 6, math.MaxInt}
	some := []uint32{0, 1, 2, 6, 1 << 7, 1 << 8, 1 << 31, 0xf0f0f0f0, every &^ 2, every}
	for _, kind := range kinds {
		for _, arg := range numbers {
			for _, alt := range numbers {
				for _, lost := range numbers {
					n := api.Node{Kind: kind, Arg: arg, Next: lost, Alt: alt}
					for i, live := range some {
						exit, begins := some[(i+arg&7)%len(some)], (i+alt)&1 == 0
						for range 2 {
							if m, want := Behind(n, live, exit, lost, begins), liveBehind(n, live, exit, lost, begins); m != want {
								t.Fatalf("Behind(%v, %b, %b, %d, %t) = %b, not %b", n, live, exit, lost, begins, m, want)
							}
							begins = !begins
						}
					}
				}
			}
		}
	}
}

// 16.1: whether there is a node where nobody is told to live.
func TestSolo(t *testing.T) {
	for _, c := range []struct {
		s    api.Section
		i    int
		want bool
	}{
		{tell(0, 0, 0), 0, true},
		{tell(every, every, 0), 0, true}, // whoever lives where it begins and ends
		{api.Section{Entry: every, Exit: every, Held: []uint32{every}, Live: []uint32{0}}, 0, true},
		{tell(0, 0, 1), 0, false},
		{tell(0, 0, 1<<8), 0, false}, // lost
		{tell(0, 0, 1<<31), 0, false},
		{tell(0, 0, every), 0, false},
		{tell(0, 0, 0, 1, 0), 0, true},
		{tell(0, 0, 0, 1, 0), 1, false},
		{tell(0, 0, 0, 1, 0), 2, true},
		// nodes that there aren't
		{tell(0, 0, 0, 1, 0), 3, false},
		{tell(0, 0, 0, 1, 0), -1, false},
		{tell(0, 0, 0), 1 << 32, false},
		{tell(0, 0, 0), math.MaxInt, false},
		{tell(0, 0, 0), math.MinInt, false},
		{tell(0, 0), 0, false},
		{api.Section{}, 0, false},
		{api.Section{}, -1, false},
		// of which the section tells nothing of what is held, or of what may live
		{api.Section{Live: []uint32{1, 0}}, 1, true},
		{api.Section{Live: []uint32{0, 0}, Held: []uint32{7}}, 1, true},
		{api.Section{Held: []uint32{0, 0}}, 1, false},
		{api.Section{Live: []uint32{0}, Held: []uint32{0, 0}}, 1, false},
		{api.Section{Live: make([]uint32, 1, 2)}, 1, false}, // there is but room for it
		{api.Section{Live: make([]uint32, 99)}, 98, true},
		{api.Section{Live: make([]uint32, 99)}, 99, false},
	} {
		if is := Solo(c.s, c.i); is != c.want {
			t.Errorf("Solo(%b, %d) = %t", c.s, c.i, is)
		}
	}
}

// 16.2: what is wrong first, and where.
func TestByHand(t *testing.T) {
	badShape := api.Fault{Func: -1, Node: -1, What: api.BadShape}
	live := func(f, at int) api.Fault { return api.Fault{Func: f, Node: at, What: api.BadLive} }
	spawn := func(f, at int) api.Fault { return api.Fault{Func: f, Node: at, What: api.BadSpawn} }
	for _, c := range []struct {
		lines string
		l     []api.Section
		want  api.Fault
	}{
		{"alibi 0 0 0, func, return", []api.Section{tell(0, 0, 0)}, fine},
		{"alibi 0 0 0, func, return", []api.Section{tell(1, 1, 1)}, fine},
		{"alibi 0 0 0, func, return", []api.Section{tell(0, every, every)}, fine}, // it may tell more than there is
		{"alibi 0 0 0, func, return", []api.Section{tell(0, every, 0)}, fine},

		// sections that aren't shaped
		{"alibi 0 0 0, func, return", nil, badShape},
		{"alibi 0 0 0, func, return", []api.Section{{}}, badShape},
		{"alibi 0 0 0, func, return", []api.Section{tell(0, 0, 0, 0)}, badShape},
		{"alibi 0 0 0, func, return", []api.Section{tell(0, 0, 0), tell(0, 0, 0)}, badShape},
		{"alibi 0 0 0, func, return, func, return", []api.Section{tell(0, 0, 0)}, badShape},
		{"alibi 0 0 0, func, return", []api.Section{{Live: []uint32{0}}}, badShape},
		{"alibi 0 0 0, func, return", []api.Section{{Held: []uint32{0}}}, badShape},
		{"alibi 0 0 0, func, return", []api.Section{{LiveEntry: 1, Held: []uint32{0}}}, badShape},
		{"alibi 0 0 0, func, return", []api.Section{{Live: []uint32{0}, Held: []uint32{0, 0}}}, badShape},
		{"alibi 0 0 0, func, return, func, return", []api.Section{tell(1, 0, 0), tell(0, 0)}, badShape}, // ahead of what is wrong with a function

		// where a function begins, and its node 0
		{"alibi 0 0 1, func, return", []api.Section{tell(1, 0, 0)}, live(0, -1)},
		{"alibi 0 0 1, func, return", []api.Section{tell(3, 3, 1)}, live(0, -1)},
		{"alibi 0 0 1, func, return", []api.Section{tell(1<<31, 3, 3)}, live(0, -1)},
		{"alibi 0 0 1, func, return", []api.Section{tell(1, 3, 3)}, fine},
		{"alibi 0 0 1, func, return, func, return", []api.Section{tell(0, 0, 0), tell(2, 2, 1)}, live(1, -1)}, // whom nobody calls
		{"alibi 0 0 1, func, skip 1, return", []api.Section{tell(2, 2, 0, 2)}, live(0, -1)},
		{"alibi 0 0 1, func, skip 0", []api.Section{tell(1, 0, 1)}, fine}, // where it doesn't end nobody need be told

		// a return, and where its function ends
		{"alibi 0 0 1, func, return", []api.Section{tell(0, 0, 1)}, live(0, 0)},
		{"alibi 0 0 1, func, return", []api.Section{tell(0, 2, 3)}, live(0, 0)},
		{"alibi 0 0 1, func, return", []api.Section{tell(1, 1<<30, 1)}, live(0, 0)},
		{"alibi 0 0 1, func, return, return", []api.Section{tell(0, 0, 0, 1)}, live(0, 1)}, // where nobody comes to
		{"alibi 0 0 1, func, skip 1, return", []api.Section{tell(0, 0, 1, 1)}, live(0, 1)},

		// a node that goes on
		{"alibi 0 0 1, func, skip 1, return", []api.Section{tell(0, 1, 1, 0)}, live(0, 0)},
		{"alibi 0 0 1, func, skip 1, return", []api.Section{tell(0, 1, 0, 1)}, fine},
		{"alibi 0 0 1, func, skip 2, skip 2, return", []api.Section{tell(0, 0, 0, 1, 0)}, live(0, 1)}, // where nobody comes to
		{"alibi 0 0 1, func, skip 1, skip 0", []api.Section{tell(1, 0, 1, 1)}, fine},
		{"alibi 0 0 1, func, skip 1, skip 0", []api.Section{tell(0, 0, 0, 1)}, live(0, 1)},
		{"alibi 0 0 1, func, branch 1 2, return, return", []api.Section{tell(1, 1, 1, 1, 0)}, live(0, 0)},
		{"alibi 0 0 1, func, branch 1 2, return, return", []api.Section{tell(1, 1, 1, 0, 1)}, live(0, 0)},
		{"alibi 0 0 1, func, branch 1 2, return, return", []api.Section{tell(1, 1, 1, 1, 1)}, fine},
		{"alibi 1 1 1, func, write 0 1, lock 0 2, read 0 3, unlock 0 4, return", []api.Section{tell(3, 3, 3, 3, 3, 3, 3)}, fine},
		{"alibi 1 1 1, func, write 0 1, lock 0 2, read 0 3, unlock 0 4, return", []api.Section{tell(3, 3, 3, 3, 3, 3, 2)}, live(0, 3)},
		{"alibi 1 1 1, func, write 0 1, lock 0 2, read 0 3, unlock 0 4, return", []api.Section{tell(3, 3, 3, 3, 3, 2, 3)}, live(0, 2)},
		{"alibi 1 1 1, func, write 0 1, lock 0 2, read 0 3, unlock 0 4, return", []api.Section{tell(3, 3, 3, 3, 2, 3, 3)}, live(0, 1)},

		// a join: but its slot
		{"alibi 0 0 2, func, join 0 1, return", []api.Section{tell(7, 6, 7, 6)}, fine},
		{"alibi 0 0 2, func, join 0 1, return", []api.Section{tell(7, 6, 7, 4)}, live(0, 0)},
		{"alibi 0 0 2, func, join 0 1, return", []api.Section{tell(7, 6, 7, 2)}, live(0, 0)}, // lost isn't joined
		{"alibi 0 0 2, func, join 1 1, return", []api.Section{tell(7, 5, 7, 5)}, fine},
		{"alibi 0 0 2, func, join 1 1, return", []api.Section{tell(1, 0, 1, 0)}, live(0, 0)}, // of another slot
		{"alibi 0 0 2, func, join 1 1, return", []api.Section{tell(0, 0, 0, 0)}, fine},
		{"alibi 0 0 2, func, join 1 0", []api.Section{tell(2, 0, 2)}, fine},

		// a spawn: its slot, and who is begun has others out of sight
		{"alibi 0 0 1, func, spawn 1 0 1, return, func, return", []api.Section{tell(0, 1, 0, 1), tell(2, 2, 2)}, fine},
		{"alibi 0 0 1, func, spawn 1 0 1, return, func, return", []api.Section{tell(0, 1, 0, 0), tell(2, 2, 2)}, live(0, 0)},
		{"alibi 0 0 1, func, spawn 1 0 1, return, func, return", []api.Section{tell(0, 2, 0, 2), tell(2, 2, 2)}, live(0, 0)},
		{"alibi 0 0 1, func, spawn 1 0 1, return, func, return", []api.Section{tell(0, 1, 0, 1), tell(0, 2, 2)}, spawn(0, 0)},
		{"alibi 0 0 1, func, spawn 1 0 1, return, func, return", []api.Section{tell(0, 1, 0, 1), tell(1, 3, 3)}, spawn(0, 0)}, // of its own slot nothing is asked
		{"alibi 0 0 1, func, spawn 1 0 1, return, func, return", []api.Section{tell(2, 3, 2, 3), tell(3, 3, 3)}, fine},
		{"alibi 0 0 1, func, spawn 1 0 1, return, func, return", []api.Section{tell(2, 3, 2, 1), tell(3, 3, 3)}, live(0, 0)},
		{"alibi 0 0 1, func, return, spawn 1 0 0, func, return", []api.Section{tell(0, 0, 0, 0), tell(0, 0, 0)}, spawn(0, 1)}, // where nobody comes to
		{"alibi 0 0 3, func, spawn 1 2 1, return, func, return", []api.Section{tell(0, 4, 0, 4), tell(8, 8, 8)}, fine},
		{"alibi 0 0 3, func, spawn 1 2 1, return, func, return", []api.Section{tell(0, 1, 0, 1), tell(8, 8, 8)}, live(0, 0)},
		{"alibi 0 0 3, func, spawn 1 2 1, return, func, return", []api.Section{tell(0, 4, 0, 4), tell(7, 15, 15)}, spawn(0, 0)},
		{"alibi 0 0 8, func, spawn 1 7 1, return, func, return", []api.Section{tell(0, 128, 0, 128), tell(256, 256, 256)}, fine},
		{"alibi 0 0 8, func, spawn 1 7 1, return, func, return", []api.Section{tell(0, 128, 0, 128), tell(128, 256, 256)}, spawn(0, 0)},

		// into a slot in which somebody may live, or lived
		{"alibi 0 0 1, func, spawn 1 0 1, spawn 1 0 2, return, func, return", []api.Section{tell(0, 3, 0, 1, 3), tell(2, 2, 2)}, fine},
		{"alibi 0 0 1, func, spawn 1 0 1, spawn 1 0 2, return, func, return", []api.Section{tell(0, 1, 0, 1, 1), tell(2, 2, 2)}, live(0, 1)},
		{"alibi 0 0 2, func, spawn 1 0 1, spawn 1 1 2, return, func, return", []api.Section{tell(0, 3, 0, 1, 3), tell(4, 4, 4)}, fine}, // another slot
		{"alibi 0 0 1, func, spawn 1 0 1, join 0 2, spawn 1 0 3, return, func, return", []api.Section{tell(0, 1, 0, 1, 0, 1), tell(2, 2, 2)}, fine},
		{"alibi 0 0 1, func, spawn 1 0 0, func, return", []api.Section{tell(0, 0, 3), tell(2, 2, 2)}, fine}, // again and again
		{"alibi 0 0 1, func, spawn 1 0 0, func, return", []api.Section{tell(0, 0, 1), tell(2, 2, 2)}, live(0, 0)},
		{"alibi 0 0 1, func, spawn 1 0 1, join 0 0, func, return", []api.Section{tell(0, 0, 0, 1), tell(2, 2, 2)}, fine},

		// of a function that may do a spawn: itself, by a call, where nobody comes to; or that is begun by one that may
		{"alibi 0 0 1, func, spawn 1 0 1, return, func, return, spawn 2 0 0, func, return", []api.Section{tell(0, 1, 0, 1), tell(2, 2, 2, 2), tell(2, 2, 2)}, live(0, 0)},
		{"alibi 0 0 1, func, spawn 1 0 1, return, func, return, spawn 2 0 0, func, return", []api.Section{tell(0, 3, 0, 3), tell(2, 2, 2, 2), tell(2, 2, 2)}, live(1, 1)},
		{"alibi 0 0 1, func, spawn 1 0 1, return, func, return, spawn 2 0 0, func, return", []api.Section{tell(0, 3, 0, 3), tell(2, 3, 3, 2), tell(2, 2, 2)}, fine},
		{"alibi 0 0 1, func, spawn 1 0 1, return, func, call 2 1, return, func, spawn 3 0 1, return, func, return", []api.Section{tell(0, 1, 0, 1), tell(2, 3, 2, 3), tell(2, 3, 2, 3), tell(2, 2, 2)}, live(0, 0)},
		{"alibi 0 0 1, func, spawn 1 0 1, return, func, call 2 1, return, func, spawn 3 0 1, return, func, return", []api.Section{tell(0, 3, 0, 3), tell(2, 3, 2, 3), tell(2, 3, 2, 3), tell(2, 2, 2)}, fine},
		{"alibi 0 0 1, func, spawn 1 0 1, call 2 1, func, return, func, spawn 1 0 1, return", []api.Section{tell(0, 0, 0, 3), tell(2, 2, 2), tell(3, 3, 3, 3)}, fine},
		{"alibi 0 0 1, func, spawn 0 0 1, return", []api.Section{tell(2, 3, 2, 3)}, fine}, // by itself
		{"alibi 0 0 1, func, spawn 0 0 1, return", []api.Section{tell(0, 3, 0, 3)}, spawn(0, 0)},
		{"alibi 0 0 1, func, spawn 0 0 1, return", []api.Section{tell(0, 3, 0, 1)}, spawn(0, 0)}, // ahead of what may live behind it

		// a call, and its callee's entry and exit
		{"alibi 0 0 1, func, call 1 1, return, func, return", []api.Section{tell(1, 1, 1, 1), tell(1, 1, 1)}, fine},
		{"alibi 0 0 1, func, call 1 1, return, func, return", []api.Section{tell(1, 1, 1, 1), tell(2, 3, 3)}, live(0, 0)},
		{"alibi 0 0 1, func, call 1 1, return, func, return", []api.Section{tell(1, 1, 1, 1), tell(0, 1, 1)}, live(0, 0)}, // of the entry, not of the node 0
		{"alibi 0 0 1, func, call 1 1, return, func, return", []api.Section{tell(1, 1, 1, 1), tell(3, 3, 3)}, live(0, 0)},
		{"alibi 0 0 1, func, call 1 1, return, func, return", []api.Section{tell(1, 3, 1, 3), tell(3, 3, 3)}, fine},
		{"alibi 0 0 1, func, call 1 1, return, func, join 0 1, return", []api.Section{tell(1, 0, 1, 0), tell(1, 0, 1, 0)}, fine}, // the callee joins
		{"alibi 0 0 1, func, call 1 1, return, func, skip 0", []api.Section{tell(1, 0, 1, 0), tell(1, 0, 1)}, fine},              // it never ends
		{"alibi 0 0 1, func, call 1 1, return, func, skip 0", []api.Section{tell(1, 0, 1, 0), tell(1, 2, 1)}, live(0, 0)},        // though it is told where
		{"alibi 0 0 1, func, return, call 1 1, func, return", []api.Section{tell(0, 0, 0, 1), tell(0, 0, 0)}, live(0, 1)},        // where nobody comes to
		{"alibi 0 0 1, func, return, func, call 0 1, return", []api.Section{tell(1, 1, 1), tell(1, 1, 1, 1)}, fine},              // of the function 0
		{"alibi 0 0 1, func, return, func, call 0 1, return", []api.Section{tell(0, 1, 1), tell(1, 1, 1, 1)}, live(1, 0)},
		{"alibi 0 0 2, func, spawn 2 0 1, call 1 2, join 1 3, return, func, spawn 2 1 1, join 0 2, return, func, return", []api.Section{tell(0, 0, 0, 1, 2, 0), tell(1, 2, 1, 3, 2), tell(4, 4, 4)}, fine}, // its thread's slots are the callee's

		// ids of no slot, above lost
		{"alibi 0 0 1, func, return", []api.Section{tell(0, 1, 1<<31|1)}, live(0, 0)},
		{"alibi 0 0 1, func, skip 1, return", []api.Section{tell(0, 1, 1<<31, 0)}, live(0, 0)},
		{"alibi 0 0 1, func, join 0 1, return", []api.Section{tell(0, 0, 5, 0)}, live(0, 0)},
		{"alibi 0 0 1, func, call 1 1, return, func, return", []api.Section{tell(0, 0, 1<<9, 0), tell(0, 0, 0)}, live(0, 0)},
		{"alibi 0 0 1, func, call 1 1, return, func, skip 0", []api.Section{tell(0, 0, 0, 0), tell(0, 1<<9, 0)}, live(0, 0)},
		{"alibi 0 0 0, func, call 1 1, return, func, return", []api.Section{tell(every, every, every, every), tell(every, every, every)}, fine},

		// several things at once
		{"alibi 0 0 1, func, return, func, return", []api.Section{tell(0, 0, 1), tell(1, 0, 0)}, live(0, 0)},
		{"alibi 0 0 1, func, return", []api.Section{tell(1, 0, 2)}, live(0, -1)},
		{"alibi 0 0 1, func, skip 1, return", []api.Section{tell(0, 0, 1, 2)}, live(0, 0)},
		{"alibi 0 0 1, func, skip 1, spawn 1 0 1, func, return", []api.Section{tell(0, 0, 1, 0), tell(0, 0, 0)}, live(0, 0)},
		{"alibi 0 0 1, func, spawn 1 0 1, skip 2, return, func, return", []api.Section{tell(0, 0, 0, 1, 0), tell(0, 0, 0)}, spawn(0, 0)},
		{"alibi 0 0 1, func, spawn 1 0 1, return, func, return", []api.Section{tell(1, 0, 0, 1), tell(0, 0, 0)}, live(0, -1)},
		{"alibi 0 0 1, func, spawn 1 0 1, return, func, return", []api.Section{tell(0, 1, 0, 1), tell(4, 2, 2)}, spawn(0, 0)},
		{"alibi 0 0 1, func, call 1 1, spawn 1 0 1, func, return", []api.Section{tell(0, 0, 1, 0), tell(0, 0, 0)}, live(0, 0)},
	} {
		p := parsed(t, c.lines)
		check(t, p, c.l, c.want, api.OK)
		if all, _ := checkSections(t, p, c.l); append(all, fine)[0] != c.want {
			t.Errorf("%s: %v is wrong by the chapter's words", c.lines, all)
		}
	}
}

// 16.2: behind each node that may be, id by id.
func TestCheckBehindEachNode(t *testing.T) {
	p := api.Program{Globals: 16, Locks: 16, Slots: 8, Funcs: make([][]api.Node, 16)}
	for f := range p.Funcs { // they never end, so that they may be told to end wherever
		p.Funcs[f] = []api.Node{{Kind: api.Skip}}
	}
	p.Funcs[5] = []api.Node{{Kind: api.Skip}, {Kind: api.Call, Arg: 6}}   // where nobody comes to
	p.Funcs[6] = []api.Node{{Kind: api.Spawn, Arg: 7, Alt: 2}}            // which begins somebody
	p.Funcs[9] = []api.Node{{Kind: api.Join, Arg: 6}, {Kind: api.Branch}} // which name nobody
	p.Funcs[10] = []api.Node{{Kind: api.Call, Arg: 9}}
	count := 0
	for kind := range 9 {
		for i := range 16 * 8 {
			n := api.Node{Kind: kind, Arg: i / 8, Next: 1, Alt: i % 8}
			if !prog.May(p, n, 2) || n.Arg == 0 && (kind == api.Spawn || kind == api.Call) {
				continue
			}
			p.Funcs[0] = []api.Node{n, {Kind: api.Skip, Next: 1}}
			for _, live := range []uint32{0, 1, 1 << 7, 1 << 8, 1<<9 - 1, 0xf0f0f0f0, every &^ (1 << n.Alt), every} {
				const exit = 1<<8 | 1<<3
				want := map[int]uint32{api.Spawn: live | 1<<n.Alt, api.Join: live &^ (1 << n.Arg), api.Call: exit}
				behind, other := want[kind]
				if !other {
					behind = live
				}
				if kind == api.Spawn && (n.Arg == 5 || n.Arg == 6 || live>>n.Alt&1 == 1) {
					behind |= 1 << 8
				}
				l := tellAll(p, func() uint32 { return every })
				l[n.Arg].LiveExit = exit
				l[0].LiveEntry, l[0].Live[0], l[0].Live[1] = 0, live, behind
				check(t, p, l, fine, api.OK)
				for id := range 32 {
					l[0].Live[1] = every &^ (1 << id)
					fault := fine
					if behind>>id&1 == 1 {
						fault = api.Fault{What: api.BadLive}
					}
					check(t, p, l, fault, api.OK)
				}
				count++
			}
		}
	}
	if count != (1+4*16+15*8+8+15+2)*8 { // Skip; Read, Write, Lock, Unlock; Spawn; Join; Call; Branch
		t.Errorf("only %d", count)
	}
}

// 16.2, 16.3: all functions of two nodes, one that is called, begun or left alone, with all that may be told of it of one slot and of lost.
func TestEachSmallOne(t *testing.T) {
	var nodes []api.Node
	small := api.Program{Slots: 1, Funcs: make([][]api.Node, 2)}
	for kind := range 10 {
		for i := range 8 {
			n := api.Node{Kind: kind, Arg: i >> 2, Next: i & 1, Alt: i >> 1 & 1}
			if kind != api.Call && prog.May(small, n, 2) {
				nodes = append(nodes, n)
			}
		}
	}
	d, first, m := dice(161), map[int]int{}, met{}
	for _, c := range []struct {
		lines string
		live  []uint32
	}{
		{"return, skip 0", []uint32{0, 0}},
		{"call 1 1, return", []uint32{0, 2}},
		{"spawn 1 0 1, join 0 2, skip 2", []uint32{0, 1, 0}},
		{"spawn 1 0 1, call 1 2, return", []uint32{0, 1, 2}},
	} {
		for a := range nodes {
			for b := range nodes {
				p := parsed(t, "alibi 0 0 1, func, "+c.lines+", func, return")
				p.Funcs[1] = []api.Node{nodes[a], nodes[b]}
				for told := range uint32(1 << 8) {
					two := func(i int) uint32 { return told >> i & 3 }
					l := []api.Section{tell(0, 3, c.live...), tell(two(0), two(2), two(4), two(6))}
					if d.below(3) == 0 {
						l = append(tellAll(p, func() uint32 { return uint32(d.below(4)) })[:1], l[1])
					}
					all, _ := checkSections(t, p, l)
					first[append(all, fine)[0].What]++
					if len(all) == 0 {
						m.along(p, l, anyPicks(&d, 24))
					}
					if m.crowded+m.untold > 0 {
						t.Fatalf("%v, %b: somebody lives who isn't told to", p, l)
					}
				}
			}
		}
	}
	for _, what := range []int{api.Fine, api.BadLive, api.BadSpawn} {
		if first[what] < 2000 {
			t.Errorf("%d was first only %d times", what, first[what])
		}
	}
	if m.alone < 100 {
		t.Errorf("who is told to be alone was, when others had been, only %d times", m.alone)
	}
}

// 16.2: many programs of up to 16 functions, with sections in which nothing, one set or all may be wrong.
func TestManySections(t *testing.T) {
	d := dice(162)
	first, several := map[int]int{}, 0
	for range 20000 {
		p := anyProgram(&d, 1+d.below(16))
		l := tellAll(p, d.set)
		if d.below(4) > 0 {
			if d.below(2) > 0 {
				l = tellAll(p, none)
			}
			settle(p, l)
			for range d.below(4) {
				tamper(&d, l)
			}
		}
		all, may := checkSections(t, p, l)
		if !may {
			t.Fatalf("%v may not be", p)
		}
		first[append(all, fine)[0].What]++
		if len(all) > 1 && all[0].Func == all[1].Func && all[0].What != all[1].What {
			several++
		}
	}
	for _, what := range []int{api.Fine, api.BadShape, api.BadLive, api.BadSpawn} {
		if first[what] < 200 {
			t.Errorf("%d was first only %d times", what, first[what])
		}
	}
	if several < 200 {
		t.Errorf("only %d times there were two unlike faults in the first function that has one", several)
	}
}

// tamper changes one thing in sections.
func tamper(d *dice, l []api.Section) {
	s := &l[d.below(len(l))]
	at := d.below(max(len(s.Live), 1))
	switch d.below(12) {
	case 0, 1:
		s.LiveEntry ^= 1 << d.below(4)
	case 2:
		s.LiveExit ^= 1 << d.below(4)
	case 3:
		s.Live = s.Live[:at]
	case 4:
		s.Held = append(s.Held, 0)
	case 5: // what may live hangs on nothing of the locks that are held
		s.Entry, s.Exit = d.set(), d.set()
		for i := range s.Held {
			s.Held[i] = d.set()
		}
	default:
		if at < len(s.Live) {
			s.Live[at] ^= 1 << d.below(4)
		}
	}
}

// 16.2: the greatest programs, with one fault at the very end, or none.
func TestGreatestPrograms(t *testing.T) {
	p := api.Program{Globals: 16, Locks: 16, Slots: 8, Funcs: make([][]api.Node, 16)}
	for f := range p.Funcs {
		for i := range 63 {
			p.Funcs[f] = append(p.Funcs[f], api.Node{Kind: api.Call, Arg: min(f+1+i, 15), Next: i + 1})
			if f == 15 {
				p.Funcs[f][i] = api.Node{Kind: api.Spawn, Arg: i % 15, Next: i + 1, Alt: i % 8}
			}
		}
		p.Funcs[f] = append(p.Funcs[f], api.Node{Kind: api.Return})
	}
	p.Funcs[15][62] = api.Node{Kind: api.Join, Arg: 7, Next: 63}
	l := tellAll(p, none)
	settle(p, l)
	if l[15].LiveExit != 1<<9-1-1<<7 || l[0].Live[1] != l[15].LiveExit || l[0].LiveEntry != 1<<8 {
		t.Errorf("%b, %b, %b", l[15].LiveExit, l[0].Live[1], l[0].LiveEntry)
	}
	check(t, p, l, fine, api.OK)
	for _, id := range []int{0, 8} {
		l[15].LiveExit ^= 1 << id
		check(t, p, l, api.Fault{Func: 15, Node: 63, What: api.BadLive}, api.OK)
		l[15].LiveExit ^= 1 << id
		l[15].Live[63] ^= 1 << id
		check(t, p, l, api.Fault{Func: 15, Node: 62, What: api.BadLive}, api.OK)
		l[15].Live[63] ^= 1 << id
	}
	l[0].LiveEntry = 0
	check(t, p, l, api.Fault{Func: 15, Node: 0, What: api.BadSpawn}, api.OK)
	l[15].Live = append(l[15].Live, 0)
	check(t, p, l, api.Fault{Func: -1, Node: -1, What: api.BadShape}, api.OK)
	p.Funcs[15][63] = api.Node{Kind: api.Call}
	check(t, p, l, fine, api.ErrRound)
}

// 16.2: no fault, and chapter 5's error, of what may not be, whatever the sections.
func TestWhatMayNotBe(t *testing.T) {
	for want, programs := range refused() {
		for _, p := range programs {
			if _, _, e := prog.Check(p); e != want {
				t.Fatalf("%v: chapter 5's error is %d, not %d", p, e, want)
			}
			shaped := tellAll(p, none)
			for _, l := range [][]api.Section{nil, shaped, tellAll(p, func() uint32 { return every }), append(shaped, api.Section{}), make([]api.Section, 40)} {
				check(t, p, l, fine, want)
			}
		}
	}
}

// 16.2: each call ends at whatever is handed in.
func TestWhateverIsHandedIn(t *testing.T) {
	d := dice(163)
	numbers := []int{math.MinInt, math.MinInt32, -33, -1, 0, 1, 2, 15, 16, 31, 32, 64, 1 << 32, 1<<32 + 1, math.MaxInt}
	errors := map[api.Errno]int{}
	for range 20000 {
		p := anyProgram(&d, 1+d.below(5))
		for range 1 + d.below(3) {
			f := d.below(len(p.Funcs))
			n := &p.Funcs[f][d.below(len(p.Funcs[f]))]
			field := []*int{&n.Kind, &n.Arg, &n.Next, &n.Alt, &p.Globals, &p.Locks, &p.Slots}[d.below(7)]
			*field = d.below(4)
			if d.below(3) == 0 {
				*field = numbers[d.below(len(numbers))]
			}
		}
		l := tellAll(p, d.set)
		tamper(&d, l)
		checkSections(t, p, l)
		checkSections(t, p, l[:d.below(len(l))])
		_, e := Check(p, l)
		errors[e]++
	}
	for _, e := range []api.Errno{api.OK, api.ErrArg, api.ErrForm, api.ErrLong, api.ErrRound} {
		if errors[e] < 20 {
			t.Errorf("%d was answered only %d times", e, errors[e])
		}
	}
	many, one := make([]api.Section, 1<<20), parsed(t, "alibi 0 0 0, func, return")
	check(t, api.Program{Funcs: make([][]api.Node, 1<<20)}, many, fine, api.ErrLong)
	check(t, one, many, api.Fault{Func: -1, Node: -1, What: api.BadShape}, api.OK)
	check(t, one, []api.Section{{Held: make([]uint32, 1), Live: make([]uint32, 1<<20)}}, api.Fault{Func: -1, Node: -1, What: api.BadShape}, api.OK)
}

// 16.3: what would come of it, if a fault weren't one: each of these has just one, and scripts on which somebody lives where nobody is told to.
func TestFaultsMatter(t *testing.T) {
	for _, c := range []struct {
		lines string
		l     []api.Section
		want  api.Fault
	}{
		// where a function begins, and ends
		{"alibi 0 0 1, func, spawn 1 0 1, return, func, return", []api.Section{tell(0, 1, 0, 1), tell(2, 0, 0)}, api.Fault{Func: 1, Node: -1, What: api.BadLive}},
		{"alibi 0 0 1, func, spawn 1 0 1, return, func, return", []api.Section{tell(0, 1, 0, 1), tell(0, 0, 0)}, api.Fault{What: api.BadSpawn}},
		{"alibi 0 0 1, func, spawn 1 0 1, call 2 2, return, func, skip 0, func, return", []api.Section{tell(0, 1, 0, 1, 1), tell(2, 0, 2), tell(0, 1, 0)}, api.Fault{Node: 1, What: api.BadLive}},
		{"alibi 0 0 1, func, spawn 1 0 1, call 2 2, return, func, skip 0, func, return", []api.Section{tell(0, 0, 0, 1, 0), tell(2, 0, 2), tell(1, 0, 1)}, api.Fault{Func: 2, What: api.BadLive}},
		{"alibi 0 0 1, func, spawn 1 0 1, call 2 2, return, func, skip 0, func, return", []api.Section{tell(0, 0, 0, 1, 0), tell(2, 0, 2), tell(1, 1, 1)}, api.Fault{Node: 1, What: api.BadLive}},
		// behind nodes: each way, a slot, and who is in none
		{"alibi 0 0 1, func, spawn 1 0 1, return, func, skip 0", []api.Section{tell(0, 0, 0, 0), tell(2, 0, 2)}, api.Fault{What: api.BadLive}},
		{"alibi 0 0 1, func, spawn 1 0 1, skip 2, return, func, skip 0", []api.Section{tell(0, 0, 0, 1, 0), tell(2, 0, 2)}, api.Fault{Node: 1, What: api.BadLive}},
		{"alibi 0 0 1, func, spawn 1 0 1, branch 2 3, return, return, func, skip 0", []api.Section{tell(0, 1, 0, 1, 0, 1), tell(2, 0, 2)}, api.Fault{Node: 1, What: api.BadLive}},
		{"alibi 0 0 1, func, spawn 1 0 1, branch 3 2, return, return, func, skip 0", []api.Section{tell(0, 1, 0, 1, 0, 1), tell(2, 0, 2)}, api.Fault{Node: 1, What: api.BadLive}},
		{"alibi 0 0 2, func, spawn 1 0 1, join 1 2, return, func, skip 0", []api.Section{tell(0, 0, 0, 1, 0), tell(4, 0, 4)}, api.Fault{Node: 1, What: api.BadLive}},
		{"alibi 0 0 1, func, spawn 1 0 1, spawn 2 0 2, join 0 3, return, func, skip 0, func, return", []api.Section{tell(0, 0, 0, 1, 1, 0), tell(2, 0, 2), tell(2, 2, 2)}, api.Fault{Node: 1, What: api.BadLive}},
		{"alibi 0 0 1, func, spawn 1 0 1, join 0 2, return, func, spawn 2 0 1, return, func, skip 0", []api.Section{tell(0, 0, 0, 1, 0), tell(2, 3, 2, 3), tell(2, 0, 2)}, api.Fault{What: api.BadLive}},
		{"alibi 0 0 1, func, spawn 1 0 1, join 0 2, return, func, call 2 1, return, func, spawn 3 0 1, return, func, skip 0", []api.Section{tell(0, 0, 0, 1, 0), tell(2, 3, 2, 3), tell(2, 3, 2, 3), tell(2, 0, 2)}, api.Fault{What: api.BadLive}},
	} {
		p := parsed(t, c.lines)
		all, _ := checkSections(t, p, c.l)
		d, m := dice(160), met{}
		for range 20 {
			m.along(p, c.l, anyPicks(&d, 24))
		}
		if m.crowded == 0 || len(all) != 1 || all[0] != c.want {
			t.Errorf("%s: %v, and somebody lived %d times", c.lines, all, m.crowded)
		}
	}
}

// 16.3: along scripts, where there is no fault, nobody lives where nobody is told to, and all others live where they are told to, even if the least is told that may be, or what was told was changed.
func TestManyScripts(t *testing.T) {
	d := dice(164)
	right, wrong, faultless := met{}, met{}, 0
	for i := range 12000 {
		p := anyProgram(&d, 2+d.below(4))
		l := tellAll(p, none)
		if i%3 == 0 {
			l = tellAll(p, d.set)
		}
		settle(p, l)
		if all, _ := checkSections(t, p, l); len(all) > 0 {
			t.Fatalf("%v, %b: %v", p, l, all)
		}
		if i%3 == 2 {
			for _, s := range []*api.Section{&l[d.below(len(l))], &l[0]} {
				s.Live[d.below(len(s.Live))] = 0
			}
		}
		fault, _ := Check(p, l)
		if fault != fine {
			wrong.along(p, l, anyPicks(&d, 60))
			continue
		}
		right.along(p, l, anyPicks(&d, 60))
		if right.crowded+right.untold > 0 {
			t.Fatalf("%v, %b: somebody lives who isn't told to", p, l)
		}
		faultless++
	}
	if right.alone < 1000 || faultless < 8000 || wrong.crowded < 1000 {
		t.Errorf("who is told to be alone was so %d times, %d were without fault, who is wrongly told so wasn't %d times", right.alone, faultless, wrong.crowded)
	}
}
