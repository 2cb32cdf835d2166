package guard

import (
	"math"
	"slices"
	"testing"

	"alibi/api"
	"alibi/prog"
	"alibi/seek"
)

// numbers are those about every edge.
var numbers = []int{math.MinInt, -1 << 32, math.MinInt32, -33, -2, -1, 0, 1, 2, 3, 15, 16, 17, 30, 31, 32, 33, 63, 64, 1 << 32, 1<<32 + 1, 1<<32 + 2, math.MaxInt}

// 17.1: whether a justification holds for an access.
func TestHoldsByHand(t *testing.T) {
	const read, write = false, true
	for _, c := range []struct {
		j          api.Just
		write      bool
		held, live uint32
		want       bool
	}{
		// where nobody may live all hold, those that may not be, too
		{solo, write, 0, 0, true},
		{solo, read, every, 0, true},
		{readOnly, write, 0, 0, true},
		{readOnly, read, 0, 0, true},
		{by(0), write, 0, 0, true},
		{by(1), read, 1, 0, true},
		{by(-1), write, 0, 0, true},
		{by(32), write, 0, 0, true},
		{by(math.MaxInt), write, every, 0, true},
		{api.Just{Kind: 3}, write, 0, 0, true},
		{api.Just{Kind: -1, Lock: -1}, write, 0, 0, true},
		{api.Just{Kind: math.MinInt, Lock: 99}, read, 0, 0, true},

		// Solo, where some may
		{solo, write, 0, 1, false},
		{solo, write, every, 1, false},
		{solo, read, every, 1 << 8, false},
		{solo, read, 0, 1 << 31, false},
		{solo, read, 1, every, false},
		{api.Just{Kind: 0, Lock: 1}, read, 2, 1, false},

		// ReadOnly: a Read, whatever is held
		{readOnly, read, 0, 1, true},
		{readOnly, read, every, every, true},
		{readOnly, write, 0, 1, false},
		{readOnly, write, 1, 1, false},
		{readOnly, write, every, 1 << 31, false},
		{api.Just{Kind: 1, Lock: 5}, read, 0, 1, true},
		{api.Just{Kind: 1, Lock: -1}, read, 0, 1, true},
		{api.Just{Kind: 1, Lock: 1}, write, 2, 1, false},

		// Guard: its lock, be it a Read or a Write
		{by(0), write, 1, 1, true},
		{by(0), read, 1, 1, true},
		{by(0), read, 0, 1, false}, // a Read, too, needs the lock
		{by(0), write, 0, 1, false},
		{by(0), write, every &^ 1, 1, false},
		{by(1), write, 2, every, true},
		{by(1), write, 1, 1, false},
		{by(15), write, 1 << 15, 1, true},
		{by(16), write, 1 << 16, 1, true}, // which is no program's
		{by(31), write, 1 << 31, 1, true},
		{by(31), read, every >> 1, 1, false},
		// a lock that is no id
		{by(-1), read, every, 1, false},
		{by(32), read, every, 1, false},
		{by(33), write, every, 1, false},
		{by(64), write, every, 1, false},
		{by(1 << 32), write, every, 1, false},
		{by(math.MinInt), read, every, 1, false},
		{by(math.MaxInt), read, every, 1, false},

		// kinds that there aren't
		{api.Just{Kind: 3}, read, every, 1, false},
		{api.Just{Kind: 3, Lock: 1}, write, every, 1, false},
		{api.Just{Kind: -1}, read, every, 1 << 8, false},
		{api.Just{Kind: 1<<32 + 1}, read, every, 1, false},
		{api.Just{Kind: 1<<32 + 2}, read, every, 1, false},
		{api.Just{Kind: math.MaxInt}, read, every, 1, false},
		{api.Just{Kind: math.MinInt}, read, every, 1, false},
	} {
		if is := Holds(c.j, c.write, c.held, c.live); is != c.want {
			t.Errorf("Holds(%v, %t, %b, %b) = %t", c.j, c.write, c.held, c.live, is)
		}
	}
}

// 17.1: whether any justification holds for an access, set by set.
func TestHoldsOfAny(t *testing.T) {
	some := []uint32{0, 1, 2, 6, 1 << 15, 1 << 16, 1 << 31, 0xf0f0f0f0, every &^ 4, every >> 1, every}
	for _, kind := range append(numbers, 4, 5, 8, 9, 255, 256, 257, 258) {
		for _, lock := range append(numbers, 4, 5, 6, 7, 8, 14, 29) {
			for i := range 2 * len(some) * len(some) {
				j, write, held, live := api.Just{Kind: kind, Lock: lock}, i%2 == 0, some[i/2%len(some)], some[i/2/len(some)]
				if is := Holds(j, write, held, live); is != holds(j, write, held, live) {
					t.Fatalf("Holds(%v, %t, %b, %b) = %t", j, write, held, live, is)
				}
			}
		}
	}
	for lock := range 32 {
		for held := range 32 {
			if Holds(by(lock), true, 1<<held, 1) != (lock == held) || Holds(by(lock), false, ^uint32(1<<held), every) != (lock != held) {
				t.Errorf("Guard of %d, where %d is held, or all others are", lock, held)
			}
			if Holds(solo, false, every, 1<<held) || Holds(readOnly, true, every, 1<<held) {
				t.Errorf("%d may live", held)
			}
		}
	}
}

// 17.1: whether a justification may be, where there are so many locks.
func TestRightByHand(t *testing.T) {
	for _, c := range []struct {
		j     api.Just
		locks int
		want  bool
	}{
		{solo, 0, true},
		{solo, 16, true},
		{solo, -1, true}, // however many locks there are
		{solo, math.MinInt, true},
		{readOnly, 0, true},
		{readOnly, 1, true},
		{readOnly, math.MinInt, true},
		// a Lock beside a kind that has none
		{api.Just{Kind: 0, Lock: 1}, 16, false},
		{api.Just{Kind: 0, Lock: -1}, 16, false},
		{api.Just{Kind: 0, Lock: 1 << 32}, 16, false},
		{api.Just{Kind: 1, Lock: 1}, 16, false},
		{api.Just{Kind: 1, Lock: -1}, 0, false},
		{api.Just{Kind: 1, Lock: math.MinInt}, math.MaxInt, false},
		// Guard
		{by(0), 0, false},
		{by(0), 1, true},
		{by(0), -1, false},
		{by(1), 1, false},
		{by(1), 2, true},
		{by(15), 16, true},
		{by(16), 16, false},
		{by(-1), 16, false},
		{by(-1), -1, false},
		{by(-2), -1, false},
		{by(math.MinInt), math.MaxInt, false},
		{by(1 << 32), 16, false},
		{by(16), 17, true}, // of more locks than a program may have
		{by(31), 32, true},
		{by(32), 33, true},
		{by(math.MaxInt - 1), math.MaxInt, true},
		{by(math.MaxInt), math.MaxInt, false},
		// kinds that there aren't
		{api.Just{Kind: 3}, 16, false},
		{api.Just{Kind: 3, Lock: 1}, 16, false},
		{api.Just{Kind: -1}, 16, false},
		{api.Just{Kind: 1 << 32}, 16, false},
		{api.Just{Kind: 1<<32 + 2}, 16, false},
		{api.Just{Kind: math.MaxInt}, 16, false},
		{api.Just{Kind: math.MinInt}, 16, false},
	} {
		if is := Right(c.j, c.locks); is != c.want {
			t.Errorf("Right(%v, %d) = %t", c.j, c.locks, is)
		}
	}
}

// 17.1: whether any justification may be.
func TestRightOfAny(t *testing.T) {
	for _, kind := range append(numbers, 4, 8, 9, 255, 256, 257, 258) {
		for _, lock := range numbers {
			for _, locks := range append(numbers, 4, 8) {
				if j := (api.Just{Kind: kind, Lock: lock}); Right(j, locks) != mayBe(j, locks) {
					t.Errorf("Right(%v, %d) = %t", j, locks, !mayBe(j, locks))
				}
			}
		}
	}
}

// 17.2: what is wrong first, and where.
func TestCheckByHand(t *testing.T) {
	type sections = []api.Section
	type justs = []api.Just
	const (
		none   = "alibi 0 0 0, func, return"
		writes = "alibi 1 2 0, func, write 0 1, return"
		reads  = "alibi 1 2 0, func, read 0 1, return"
		three  = "alibi 3 2 0, func, write 0 1, read 1 2, write 2 3, write 2 4, return"
		two    = "alibi 2 1 0, func, skip 1, write 1 2, return, func, read 0 1, return"
	)
	lone := func() api.Section { return tell(0, 0, 0, 0) } // of two nodes
	given := tell(0, 0, 0, 1, 3, 1, 2, 1, 0, 1)
	for _, c := range []struct {
		lines string
		l     sections
		js    justs
		want  api.Fault
	}{
		{none, sections{tell(0, 0)}, nil, fine},
		{none, sections{tell(0, every)}, justs{}, fine},

		// sections that aren't shaped
		{none, nil, nil, badShape()},
		{none, sections{{}}, nil, badShape()},
		{none, sections{tell(0, 0), tell(0, 0)}, nil, badShape()},
		{none, sections{tell(0, 0, 0, 0)}, nil, badShape()},
		{writes, nil, justs{solo}, badShape()},
		{writes, sections{tell(0, 0)}, justs{solo}, badShape()},
		{writes, sections{{Held: make([]uint32, 2)}}, justs{solo}, badShape()},
		{writes, sections{{Live: make([]uint32, 2)}}, justs{solo}, badShape()},
		{writes, sections{{Held: make([]uint32, 2), Live: make([]uint32, 3)}}, justs{solo}, badShape()},
		{two, sections{tell(0, 0, 0, 0, 0, 0)}, justs{solo, solo}, badShape()},
		// justifications that are too few, or too many
		{none, sections{tell(0, 0)}, justs{solo}, badShape()},
		{writes, sections{lone()}, nil, badShape()},
		{writes, sections{lone()}, justs{}, badShape()},
		{writes, sections{lone()}, justs{solo, solo}, badShape()},
		{three, sections{given}, justs{solo, readOnly}, badShape()},
		{three, sections{given}, justs{solo, readOnly, by(1), by(1)}, badShape()},
		{"alibi 16 0 0, func, return", sections{tell(0, 0)}, make(justs, 16), fine},
		{"alibi 16 0 0, func, return", sections{tell(0, 0)}, make(justs, 15), badShape()},
		{"alibi 16 0 0, func, return", sections{tell(0, 0)}, make(justs, 17), badShape()},
		// both ahead of one that may not be, and of an access
		{writes, nil, justs{by(9)}, badShape()},
		{writes, sections{lone()}, justs{by(9), by(9)}, badShape()},
		{writes, sections{tell(0, 1, 0, 0)}, justs{solo, solo}, badShape()},

		// justifications that may not be: where nobody may live, of a global without an access, and which is met first
		{writes, sections{lone()}, justs{by(1)}, fine},
		{writes, sections{lone()}, justs{by(2)}, badJust(-1, 0)},
		{writes, sections{lone()}, justs{by(-1)}, badJust(-1, 0)},
		{writes, sections{lone()}, justs{by(32)}, badJust(-1, 0)},
		{writes, sections{lone()}, justs{{Kind: 0, Lock: 1}}, badJust(-1, 0)},
		{writes, sections{lone()}, justs{{Kind: 1, Lock: 1}}, badJust(-1, 0)},
		{writes, sections{lone()}, justs{{Kind: 3}}, badJust(-1, 0)},
		{writes, sections{lone()}, justs{{Kind: -1}}, badJust(-1, 0)},
		{writes, sections{tell(every, 1, 0, 0)}, justs{by(2)}, badJust(-1, 0)}, // though it is held
		{"alibi 1 0 0, func, write 0 1, return", sections{lone()}, justs{by(0)}, badJust(-1, 0)},
		{"alibi 1 16 0, func, write 0 1, return", sections{lone()}, justs{by(15)}, fine},
		{"alibi 3 1 0, func, return", sections{tell(0, 0)}, justs{solo, readOnly, by(0)}, fine},
		{"alibi 3 1 0, func, return", sections{tell(0, 0)}, justs{solo, by(1), by(2)}, badJust(-1, 1)},
		{"alibi 3 1 0, func, return", sections{tell(0, 0)}, justs{solo, by(0), {Kind: 3}}, badJust(-1, 2)},
		{"alibi 3 1 0, func, return", sections{tell(0, 0)}, justs{{Kind: 0, Lock: 1}, by(0), {Kind: 3}}, badJust(-1, 0)},
		{three, sections{given}, justs{readOnly, solo, by(2)}, badJust(-1, 2)}, // ahead of all accesses

		// one access
		{writes, sections{lone()}, justs{solo}, fine},
		{writes, sections{lone()}, justs{readOnly}, fine},
		{writes, sections{tell(0, 1, 0, 0)}, justs{solo}, badJust(0, 0)},
		{writes, sections{tell(0, 1<<31, 0, 0)}, justs{solo}, badJust(0, 0)},
		{writes, sections{tell(0, 0, 0, 1)}, justs{solo}, fine}, // of its own node
		{writes, sections{tell(0, 1, 0, 0)}, justs{readOnly}, badJust(0, 0)},
		{writes, sections{tell(1, 1, 0, 0)}, justs{by(0)}, fine},
		{writes, sections{tell(2, 1, 1, 0)}, justs{by(0)}, badJust(0, 0)},
		{writes, sections{tell(2, 1, 0, 0)}, justs{by(1)}, fine},
		{writes, sections{tell(every, every, 0, 0)}, justs{solo}, badJust(0, 0)},
		{reads, sections{lone()}, justs{solo}, fine},
		{reads, sections{tell(0, 1, 0, 0)}, justs{solo}, badJust(0, 0)},
		{reads, sections{tell(0, 1, 0, 0)}, justs{readOnly}, fine},
		{reads, sections{tell(0, 1, 0, 0)}, justs{by(0)}, badJust(0, 0)},
		{reads, sections{tell(1, 1, 0, 0)}, justs{by(0)}, fine},

		// several, of several globals
		{three, sections{given}, justs{solo, readOnly, by(1)}, fine},
		{three, sections{given}, justs{readOnly, readOnly, by(1)}, fine},
		{three, sections{given}, justs{by(0), readOnly, by(1)}, fine},
		{three, sections{given}, justs{solo, readOnly, by(0)}, badJust(0, 3)},
		{three, sections{given}, justs{solo, readOnly, readOnly}, badJust(0, 2)},
		{three, sections{given}, justs{solo, solo, by(0)}, badJust(0, 1)},
		{three, sections{given}, justs{solo, by(1), by(1)}, badJust(0, 1)},
		{two, sections{tell(0, 1, 0, 1, 0, 1), tell(0, 1, 0, 1)}, justs{solo, solo}, badJust(0, 1)}, // node by node, not global by global
		{two, sections{tell(0, 1, 0, 1, 0, 1), tell(0, 1, 0, 1)}, justs{solo, readOnly}, badJust(0, 1)},
		{two, sections{tell(0, 1, 1, 1, 0, 1), tell(0, 1, 0, 1)}, justs{solo, by(0)}, badJust(1, 0)},
		{two, sections{tell(0, 1, 1, 1, 0, 1), tell(0, 1, 0, 1)}, justs{readOnly, by(0)}, fine},
		{two, sections{tell(0, 1, 0, 0, 0, 1), tell(0, 1, 0, 1)}, justs{by(0), readOnly}, badJust(1, 0)},

		// where nobody comes to, and whom nobody calls
		{"alibi 1 0 0, func, return, write 0 0", sections{tell(0, 0, 0, 1)}, justs{solo}, badJust(0, 1)},
		{"alibi 1 0 0, func, return, func, return, func, write 0 0", sections{tell(0, 0), tell(0, 0), tell(0, 1)}, justs{solo}, badJust(2, 0)},
		{"alibi 1 0 0, func, skip 0, func, write 0 1, write 0 0", sections{tell(0, 0), tell(0, 0, 0, 2)}, justs{readOnly}, badJust(1, 1)},

		// of nodes that are no accesses nothing is asked, nor of what is told wrongly, or of where functions begin and end
		{"alibi 0 2 2, func, lock 1 1, unlock 0 2, join 1 3, call 1 4, spawn 1 1 5, branch 6 0, skip 7, return, func, return", sections{tell(0, 1, 0, 1, 0, 1, 0, 1, 0, 1, 0, 1, 0, 1, 0, 1), tell(0, 1)}, nil, fine},
		{"alibi 1 2 2, func, lock 0 1, unlock 0 2, join 0 3, call 1 4, spawn 1 0 5, branch 6 0, skip 7, return, func, return", sections{tell(0, 1, 0, 1, 0, 1, 0, 1, 0, 1, 0, 1, 0, 1, 0, 1), tell(0, 1)}, justs{solo}, fine},
		{writes, sections{{Entry: 4, Exit: 8, Held: []uint32{1, 2}, LiveEntry: 1, Live: []uint32{8, 1}}}, justs{by(0)}, fine},
		{writes, sections{{Entry: 1, Exit: 1, Held: []uint32{0, 1}, Live: []uint32{8, 0}}}, justs{by(0)}, badJust(0, 0)},
		{writes, sections{{LiveEntry: 1, LiveExit: 1, Held: []uint32{0, 0}, Live: []uint32{0, 1}}}, justs{solo}, fine},
	} {
		p := parsed(t, c.lines)
		check(t, p, c.l, c.js, c.want, api.OK)
		if all, _ := checkJusts(t, p, c.l, c.js); append(all, fine)[0] != c.want {
			t.Errorf("%s: %v is wrong by the chapter's words", c.lines, all)
		}
	}
}

// 17.3: what is needed, and what is best.
func TestNeedsAndBestByHand(t *testing.T) {
	type sections = []api.Section
	const (
		writes = "alibi 1 2 0, func, write 0 1, return"
		both   = "alibi 2 2 0, func, write 0 1, read 0 2, write 1 3, return"
		reads  = "alibi 1 2 0, func, read 0 1, return, func, read 0 0"
		many   = "alibi 1 16 0, func, write 0 1, write 0 2, return, func, read 0 0"
	)
	no := func(lock uint32) uint32 { return every &^ (1 << lock) }
	for _, c := range []struct {
		lines        string
		l            sections
		g            int
		held         uint32
		some, writes bool
		best         api.Just
		ok           bool
	}{
		{writes, sections{tell(2, 1, 0, 1)}, 0, 2, true, true, by(1), true}, // the chapter's example
		{writes, sections{tell(2, 0, 0, 1)}, 0, every, false, false, solo, true},
		{writes, sections{tell(0, 0, 0, 0)}, 0, every, false, false, solo, true},
		{writes, sections{tell(0, 1, 0, 0)}, 0, 0, true, true, solo, false},
		{writes, sections{tell(0, 1<<31, 3, 0)}, 0, 0, true, true, solo, false},
		{writes, sections{tell(3, 1, 0, 0)}, 0, 3, true, true, by(0), true}, // several: the least one
		{writes, sections{tell(every, 1, 0, 0)}, 0, every, true, true, by(0), true},
		{writes, sections{tell(no(0), 1, 0, 0)}, 0, no(0), true, true, by(1), true},

		// a lock that isn't below the program's number of locks
		{writes, sections{tell(4, 1, 0, 0)}, 0, 4, true, true, solo, false},
		{writes, sections{tell(every&^3, 1, 0, 0)}, 0, every &^ 3, true, true, solo, false},
		{writes, sections{tell(1<<31|2, 1, 0, 0)}, 0, 1<<31 | 2, true, true, by(1), true},
		{"alibi 1 0 0, func, write 0 0", sections{tell(every, 1)}, 0, every, true, true, solo, false},
		{"alibi 1 16 0, func, write 0 0", sections{tell(every-(1<<15-1), 1)}, 0, every - (1<<15 - 1), true, true, by(15), true},
		{"alibi 1 16 0, func, write 0 0", sections{tell(every-(1<<16-1), 1)}, 0, every - (1<<16 - 1), true, true, solo, false},

		// globals without an access, and that there aren't
		{writes, sections{tell(2, 1, 0, 1)}, 1, every, false, false, solo, true},
		{writes, sections{tell(2, 1, 0, 1)}, -1, every, false, false, solo, true},
		{writes, sections{tell(2, 1, 0, 1)}, 1 << 32, every, false, false, solo, true},
		{writes, sections{tell(2, 1, 0, 1)}, math.MinInt, every, false, false, solo, true},
		{writes, sections{tell(2, 1, 0, 1)}, math.MaxInt, every, false, false, solo, true},
		{"alibi 3 2 0, func, read 2 0", sections{tell(1, 1)}, 0, every, false, false, solo, true},
		{"alibi 3 2 0, func, read 2 0", sections{tell(1, 1)}, 2, 1, true, false, readOnly, true},
		{"alibi 1 2 1, func, lock 0 1, unlock 0 2, join 0 3, call 1 4, spawn 1 0 5, branch 0 6, skip 7, return, func, return", sections{tell(1, 1, 1, 1, 1, 1, 1, 1, 1, 1, 1, 1, 1, 1, 1, 1), tell(1, 1)}, 0, every, false, false, solo, true},

		// no sections, or too few, or too many
		{writes, nil, 0, every, false, false, solo, true},
		{writes, sections{}, 0, every, false, false, solo, true},
		{writes, sections{{}}, 0, every, false, false, solo, true},
		{reads, sections{tell(1, 1, 0, 1)}, 0, 1, true, false, readOnly, true},
		{many, sections{tell(7, 1, 6, 1, 0, 0)}, 0, 6, true, true, by(1), true},
		{writes, sections{tell(2, 1, 0, 1), tell(0, 1)}, 0, 2, true, true, by(1), true},
		// nodes of which no Held is told: they count for nothing, even where some are told to live
		{writes, sections{{Live: []uint32{1, 1}}}, 0, every, false, false, solo, true},
		{both, sections{{Held: []uint32{1}, Live: []uint32{1, 1, 1, 1}}}, 0, 1, true, true, by(0), true},
		{both, sections{{Held: []uint32{1}, Live: []uint32{1, 1, 1, 1}}}, 1, every, false, false, solo, true},
		{both, sections{{Held: []uint32{0}, Live: []uint32{0, 1, 1, 1}}}, 0, every, false, false, solo, true},
		{both, sections{{Held: []uint32{1, 2}, Live: []uint32{0, 1, 1, 1}}}, 0, 2, true, false, readOnly, true},
		{"alibi 1 1 0, func, read 0 1, write 0 1", sections{{Held: []uint32{0}, Live: []uint32{1, 1}}}, 0, 0, true, false, readOnly, true},
		// nodes of which no Live is told: as if somebody might live
		{writes, sections{{Held: []uint32{2, 0}}}, 0, 2, true, true, by(1), true},
		{writes, sections{{Held: []uint32{0, 0}}}, 0, 0, true, true, solo, false},
		{both, sections{{Held: []uint32{1, 2, 2, 0}, Live: []uint32{0}}}, 0, 2, true, false, readOnly, true},
		{both, sections{{Held: []uint32{1, 2, 2, 0}, Live: []uint32{0, 0}}}, 0, every, false, false, solo, true},
		{both, sections{{Held: []uint32{1, 2, 2, 0}, Live: []uint32{0, 0}}}, 1, 2, true, true, by(1), true},
		{both, sections{{Held: []uint32{1, 2, 2, 0, 7, 7}, Live: []uint32{0, 0, 0, 0, 0, 7}}}, 1, every, false, false, solo, true}, // nodes that there aren't
		// of where functions begin and end nothing is asked
		{writes, sections{{Entry: 1, Exit: 1, LiveEntry: 1, LiveExit: 1, Held: []uint32{2, 1}, Live: []uint32{1, 0}}}, 0, 2, true, true, by(1), true},
		{writes, sections{{LiveEntry: 1, LiveExit: 1, Held: []uint32{0, 0}, Live: []uint32{0, 1}}}, 0, every, false, false, solo, true},

		// Reads alone, and Reads and Writes; those where nobody is told to live count for nothing
		{reads, sections{tell(1, 1, 0, 1), tell(2, 1)}, 0, 0, true, false, readOnly, true},
		{reads, sections{tell(1, 1, 0, 1), tell(3, 1)}, 0, 1, true, false, readOnly, true}, // ahead of a lock
		{reads, sections{tell(1, 0, 0, 1), tell(2, 1)}, 0, 2, true, false, readOnly, true},
		{reads, sections{tell(1, 0, 0, 1), tell(2, 0)}, 0, every, false, false, solo, true},
		{both, sections{tell(1, 0, 2, 1, 4, 1, 0, 0)}, 0, 2, true, false, readOnly, true}, // the Write is alone
		{both, sections{tell(1, 1, 2, 0, 4, 1, 0, 0)}, 0, 1, true, true, by(0), true},     // the Read is
		{both, sections{tell(1, 1, 2, 1, 4, 1, 0, 0)}, 0, 0, true, true, solo, false},
		{both, sections{tell(3, 1, 2, 1, 4, 1, 0, 0)}, 0, 2, true, true, by(1), true},
		{both, sections{tell(3, 1, 3, 1, 2, 1, 0, 0)}, 1, 2, true, true, by(1), true}, // of another global
		{many, sections{tell(7, 1, 14, 1, 0, 0), tell(28, 1)}, 0, 4, true, true, by(2), true},
		{many, sections{tell(7, 1, 14, 0, 0, 0), tell(28, 1)}, 0, 4, true, true, by(2), true},
		{many, sections{tell(7, 1, 14, 1, 0, 0), tell(28, 0)}, 0, 6, true, true, by(1), true},
		{many, sections{tell(7, 0, 14, 0, 0, 0), tell(28, 1)}, 0, 28, true, false, readOnly, true},
		{many, sections{tell(1, 1, 2, 1, 0, 0), tell(4, 1)}, 0, 0, true, true, solo, false},
		{many, sections{tell(no(3), 1, no(0), 1, 0, 0), tell(no(1), 1)}, 0, every &^ 11, true, true, by(2), true},
		{"alibi 1 1 0, func, return, write 0 1", sections{tell(0, 0, 1, 1)}, 0, 1, true, true, by(0), true}, // where nobody comes to
	} {
		p := parsed(t, c.lines)
		if held, some, writes := Needs(p, c.l, c.g); held != c.held || some != c.some || writes != c.writes {
			t.Errorf("%s: Needs(%b, %d) = %b, %t, %t, not %b, %t, %t", c.lines, c.l, c.g, held, some, writes, c.held, c.some, c.writes)
		}
		if j, ok := Best(p, c.l, c.g); j != c.best || ok != c.ok {
			t.Errorf("%s: Best(%b, %d) = %v, %t, not %v, %t", c.lines, c.l, c.g, j, ok, c.best, c.ok)
		}
		checkBest(t, p, c.l, c.g)
	}
}

// 17.3: of programs that may not be, too: counts and nodes are taken as they are.
func TestNeedsAndBestOfAnyProgram(t *testing.T) {
	of := func(globals, locks, g int) api.Program {
		return api.Program{Globals: globals, Locks: locks, Slots: -1, Funcs: [][]api.Node{{{Kind: 2, Arg: g, Next: 99, Alt: -1}, {Kind: 77, Arg: g}, {Kind: -1, Arg: g}}, nil, {}}}
	}
	for _, g := range numbers {
		for _, locks := range numbers {
			for _, held := range []uint32{0, 1, 6, 1 << 31, every &^ 3, every} {
				for _, globals := range []int{-1, 0, 1, 16} {
					p, l := of(globals, locks, g), []api.Section{tell(held, 1, 0, 1, 0, 1), tell(0, 1)}
					checkBest(t, p, l, g)
					checkBest(t, p, l, g^1)
					if h, some, writes := Needs(p, l, g); h != held || !some || !writes {
						t.Errorf("%v: Needs(%b, %d) = %b, %t, %t", p, l, g, h, some, writes)
					}
					if j, ok := Best(p, l, g); held == every && (j != by(0)) == (locks > 0) || held == 0 && ok {
						t.Errorf("%v: Best(%b, %d) = %v, %t", p, l, g, j, ok)
					}
				}
			}
		}
	}
	for _, l := range [][]api.Section{nil, {tell(1, 1)}} {
		for _, p := range []api.Program{{}, {Globals: 5, Locks: 5}} {
			if held, some, writes := Needs(p, l, 0); held != every || some || writes {
				t.Errorf("of no function: %b, %t, %t", held, some, writes)
			}
			if j, ok := Best(p, l, 0); j != solo || !ok {
				t.Errorf("of no function: %v, %t", j, ok)
			}
		}
	}
	for want, programs := range refused() {
		for _, p := range programs {
			for _, g := range numbers {
				for _, l := range [][]api.Section{nil, tellAll(p, always(6), always(1)), tellAll(p, always(0), always(1)), tellAll(p, always(0), always(0)), make([]api.Section, 40)} {
					checkBest(t, p, l, g)
				}
			}
			if _, _, e := prog.Check(p); e != want {
				t.Errorf("%v: chapter 5's error is %d, not %d", p, e, want)
			}
		}
	}
}

// 17.2, 17.3, 17.4: all functions of two nodes and a Return, of two globals and two locks, with all that may be told of their nodes, and some justifications.
func TestEachSmallOne(t *testing.T) {
	nodes := []api.Node{{Kind: 1, Next: 1}, {Kind: 1, Arg: 1, Next: 1}, {Kind: 2, Next: 1}, {Kind: 2, Arg: 1, Next: 1}, {Kind: 3, Next: 1}}
	justs := []api.Just{solo, readOnly, by(0), by(1), by(2), by(-1), {Kind: 0, Lock: 1}, {Kind: 1, Lock: 1}, {Kind: 3}}
	p := api.Program{Globals: 2, Locks: 2, Funcs: [][]api.Node{nil}}
	first := map[api.Fault]int{}
	for i := range len(nodes) * len(nodes) {
		p.Funcs[0] = []api.Node{nodes[i%len(nodes)], nodes[i/len(nodes)], {Kind: 9}}
		for told := range uint32(1 << 6) {
			l := []api.Section{tell(told&3, told>>2&1, told>>3&3, told>>5&1, 0, 1)}
			if best, all := bests(t, p, l); all {
				check(t, p, l, best, fine, api.OK)
			}
			for _, a := range justs {
				for _, b := range justs {
					wrong, _ := checkJusts(t, p, l, []api.Just{a, b})
					first[append(wrong, fine)[0]]++
				}
			}
		}
	}
	for _, want := range []api.Fault{fine, badJust(-1, 0), badJust(-1, 1), badJust(0, 0), badJust(0, 1)} {
		if first[want] < 1000 {
			t.Errorf("%v was first only %d times", want, first[want])
		}
	}
	if len(first) != 5 {
		t.Errorf("%v", first)
	}
}

// 17.2, 17.3, 17.4: many programs of up to 16 functions, with what may be told of them, and justifications, of which some, or all, are the best.
func TestMany(t *testing.T) {
	d, kinds, met, several := dice(171), map[api.Just]int{}, map[string]int{}, 0
	for range 20000 {
		p := anyProgram(&d, anyCounts(&d), 1+d.below(1+d.below(16)), 8)
		l := tellAll(p, d.set, d.set)
		if d.below(2) == 0 { // so that there are locks that are held at all accesses
			often := uint32(d.below(1 << 16))
			l = tellAll(p, func() uint32 { return often | d.set() }, d.set)
		}
		js := anyJusts(&d, p.Globals, p.Locks)
		if d.below(4) > 0 {
			js, _ = bests(t, p, l)
		}
		if d.below(8) == 0 && p.Globals > 0 {
			js[d.below(p.Globals)] = anyJusts(&d, 1, p.Locks)[0]
		}
		if d.below(8) == 0 { // too few, or too many
			js = anyJusts(&d, d.below(p.Globals+2), p.Locks)
		}
		if d.below(20) == 0 {
			cut(&d, l)
		}
		all, may := checkJusts(t, p, l, js)
		if !may {
			t.Fatalf("%v may not be", p)
		}
		switch fault := append(all, fine)[0]; {
		case fault == fine:
			met["fine"]++
		case fault == badShape():
			met["shape"]++
		case fault.Func < 0:
			met["may not be"]++
		default:
			met["access"]++
		}
		if len(all) > 1 && all[0].Func >= 0 && all[0].Func < all[1].Func {
			several++
		}
		for g := -1; g <= p.Globals; g++ {
			if j, ok := checkBest(t, p, l, g); ok {
				kinds[j]++
			} else {
				kinds[api.Just{Kind: -1}]++
			}
		}
	}
	for _, what := range []string{"fine", "shape", "may not be", "access"} {
		if met[what] < 200 {
			t.Errorf("%s was first only %d times", what, met[what])
		}
	}
	for _, j := range []api.Just{{Kind: -1}, solo, readOnly, by(0), by(1), by(2)} {
		if kinds[j] < 50 {
			t.Errorf("%v was the best only %d times", j, kinds[j])
		}
	}
	if several < 200 {
		t.Errorf("only %d times there were accesses of two functions at fault", several)
	}
}

// cut takes something away from a section, or adds to it.
func cut(d *dice, l []api.Section) {
	s := &l[d.below(len(l))]
	m := []*[]uint32{&s.Held, &s.Live}[d.below(2)]
	if d.below(3) == 0 {
		*m = append(*m, 0)
		return
	}
	*m = (*m)[:d.below(max(len(*m), 1))]
}

// 17.4: what is best holds for all accesses to its global; where there is none, each one fails at one of them.
func TestBestAgainstAllAccesses(t *testing.T) {
	d, found, without := dice(172), 0, 0
	for range 4000 {
		p := anyProgram(&d, anyCounts(&d), 1+d.below(6), 8)
		often := uint32(d.below(1 << p.Locks))
		l := tellAll(p, func() uint32 { return often | d.set() }, d.set)
		all := accesses(p, l)
		js, every := bests(t, p, l)
		if every {
			check(t, p, l, js, fine, api.OK)
		}
		for g := range p.Globals {
			j, ok := Best(p, l, g)
			fails := func(j api.Just) bool {
				return slices.ContainsFunc(all, func(a access) bool { return a.global == g && !Holds(j, a.write, a.held, a.live) })
			}
			if ok {
				if found++; !Right(j, p.Locks) || fails(j) {
					t.Fatalf("%v, %b: %v isn't for %d", p, l, j, g)
				}
				continue
			}
			for lock := -2; lock < p.Locks; lock++ {
				j := []api.Just{solo, readOnly, by(lock)}[min(lock+2, 2)]
				without++
				if !fails(j) {
					t.Fatalf("%v, %b: %v is for %d, and isn't found", p, l, j, g)
				}
				js[g] = j
				if fault, e := Check(p, l, js); fault.What != api.BadJust || e != api.OK {
					t.Fatalf("%v, %b, %v: %v, %d", p, l, js, fault, e)
				}
			}
		}
	}
	if found < 2000 || without < 2000 {
		t.Errorf("found %d times, and %d failed where there was none", found, without)
	}
}

// 17.2, 17.3: the greatest programs, with one fault at the very end, or none.
func TestGreatestPrograms(t *testing.T) {
	p := api.Program{Globals: 16, Locks: 16, Slots: 8, Funcs: make([][]api.Node, 16)}
	for f := range p.Funcs {
		for at := range 64 {
			p.Funcs[f] = append(p.Funcs[f], api.Node{Kind: api.Write, Arg: (f + at) % 16, Next: 63})
		}
	}
	l := tellAll(p, always(1<<15), always(1<<8))
	js := slices.Repeat([]api.Just{by(15)}, 16)
	check(t, p, l, js, fine, api.OK)
	for g := range 16 {
		if held, some, writes := Needs(p, l, g); held != 1<<15 || !some || !writes {
			t.Errorf("Needs of %d: %b, %t, %t", g, held, some, writes)
		}
		if j, ok := Best(p, l, g); j != by(15) || !ok {
			t.Errorf("Best of %d: %v, %t", g, j, ok)
		}
	}
	l[15].Held[63] = 1<<15 - 1
	check(t, p, l, js, badJust(15, 63), api.OK)
	if j, ok := Best(p, l, 14); j != solo || ok {
		t.Errorf("Best of 14: %v, %t", j, ok)
	}
	p.Funcs[15][63].Kind = api.Read
	check(t, p, l, js, badJust(15, 63), api.OK)
	l[15].Live[63] = 0
	check(t, p, l, js, fine, api.OK)
	js[15] = by(16)
	check(t, p, l, js, badJust(-1, 15), api.OK)
	l[15].Live = l[15].Live[:63]
	check(t, p, l, js, badShape(), api.OK)
	p.Funcs[15][63] = api.Node{Kind: api.Call}
	check(t, p, l, js, badShape(), api.OK)
	p.Funcs[0][63] = api.Node{Kind: api.Call, Arg: 15}
	check(t, p, l, js, fine, api.ErrRound)
}

// 17.2: no fault, and chapter 5's error, of what may not be, whatever the sections and justifications.
func TestWhatMayNotBe(t *testing.T) {
	for want, programs := range refused() {
		for _, p := range programs {
			shaped := tellAll(p, always(0), always(1))
			for _, l := range [][]api.Section{nil, shaped, tellAll(p, always(every), always(0)), append(shaped, api.Section{}), make([]api.Section, 40)} {
				for _, js := range [][]api.Just{nil, {solo}, {readOnly}, {by(0)}, {by(9)}, {solo, solo}, make([]api.Just, 16), make([]api.Just, 40)} {
					check(t, p, l, js, fine, want)
				}
			}
		}
	}
}

// 17.1, 17.2, 17.3: each call ends at whatever is handed in.
func TestWhateverIsHandedIn(t *testing.T) {
	d, errors := dice(173), map[api.Errno]int{}
	for range 20000 {
		p := anyProgram(&d, anyCounts(&d), 1+d.below(5), 8)
		l := tellAll(p, d.set, d.set)
		js := anyJusts(&d, p.Globals, p.Locks)
		for range 1 + d.below(3) {
			f := d.below(len(p.Funcs))
			n := &p.Funcs[f][d.below(len(p.Funcs[f]))]
			field := []*int{&n.Kind, &n.Arg, &n.Next, &n.Alt, &p.Globals, &p.Locks, &p.Slots}[d.below(7)]
			*field = d.below(4)
			if d.below(3) == 0 {
				*field = d.of(numbers...)
			}
			if d.below(20) == 0 {
				*n = api.Node{Kind: api.Call, Arg: d.below(f + 1)}
			}
		}
		for range d.below(3) {
			cut(&d, l[:1])
			l = append(l[:d.below(len(l))], tell(0, 1, 1, 0))
		}
		if len(js) > 0 {
			js[d.below(len(js))] = api.Just{Kind: d.of(numbers...), Lock: d.of(numbers...)}
		}
		checkJusts(t, p, l, js)
		checkJusts(t, p, l[:d.below(len(l))], js)
		for _, g := range []int{0, 1, d.below(20), d.of(numbers...), p.Funcs[0][0].Arg} {
			checkBest(t, p, l, g)
		}
		_, e := Check(p, l, js)
		errors[e]++
	}
	for _, e := range []api.Errno{api.OK, api.ErrArg, api.ErrForm, api.ErrLong, api.ErrRound} {
		if errors[e] < 20 {
			t.Errorf("%d was answered only %d times", e, errors[e])
		}
	}
	many, one := make([]api.Section, 1<<20), parsed(t, "alibi 1 0 0, func, write 0 0")
	huge := api.Program{Locks: math.MaxInt, Funcs: [][]api.Node{slices.Repeat([]api.Node{{Kind: api.Read, Arg: 7}}, 1<<20)}}
	check(t, huge, many, nil, fine, api.ErrLong)
	check(t, one, many, make([]api.Just, 1), badShape(), api.OK)
	check(t, one, []api.Section{tell(0, 0)}, make([]api.Just, 1<<20), badShape(), api.OK)
	checkBest(t, huge, tellAll(huge, always(6), always(1)), 7)
	checkBest(t, api.Program{Funcs: make([][]api.Node, 1<<20)}, many, 0)
	checkBest(t, one, []api.Section{{Held: make([]uint32, 1<<20), Live: make([]uint32, 1<<20)}}, 0)
}

// What is told being so, no script comes to a race, if the justifications hold; each of them is needed somewhere, where threads would race if it weren't one.
func TestManyScripts(t *testing.T) {
	d, kept, searched, raced := dice(174), map[int]int{}, 0, 0
	for i := range 3000 {
		p := anyProgram(&d, anyCounts(&d), 2+d.below(3), 8)
		if i%2 == 0 { // so that searches end, and locks are often held
			p = anyProgram(&d, api.Program{Globals: 1, Locks: 1, Slots: 1}, 2, 6)
		}
		l := tellAll(p, always(1<<16-1), always(0))
		settle(t, p, l)
		js, all := bests(t, p, l)
		if fault, e := Check(p, l, js); (fault == fine) != all || e != api.OK {
			t.Fatalf("%v, %b, %v: %v, %d", p, l, js, fault, e)
		}
		if !all {
			if races(&d, p, 5) {
				raced++
			}
			continue
		}
		if races(&d, p, 5) {
			t.Fatalf("%v, %b: %v, and yet there is a race", p, l, js)
		}
		if picks, found, e := seek.Find(p, 300); found != seek.Unknown || e != api.OK {
			if searched++; found != seek.None {
				t.Fatalf("%v, %b: %v, and yet behind %v there is a race", p, l, js, picks)
			}
		}
		for g := range p.Globals {
			if len(accessesTo(p, l, g)) > 0 {
				kept[js[g].Kind]++
			}
		}
	}
	if kept[0] < 100 || kept[1] < 100 || kept[2] < 100 || searched < 100 || raced < 100 {
		t.Errorf("justifications by kind: %v; %d were searched whole, and %d without justifications raced", kept, searched, raced)
	}
}

// accessesTo answers all accesses to a global.
func accessesTo(p api.Program, l []api.Section, g int) []access {
	return slices.DeleteFunc(accesses(p, l), func(a access) bool { return a.global != g })
}

// 17.2: what would come of it, if a fault weren't one: what is told of these is so, and threads race.
func TestFaultsMatter(t *testing.T) {
	const (
		begun    = "alibi 1 2 1, func, spawn 1 0 1, "
		ends     = ", return, func, "
		guarded  = begun + "lock 0 2, "
		unlocked = ", unlock 0 4, return, func, "
	)
	for _, c := range []struct {
		lines string
		j     api.Just
		want  []api.Fault
	}{
		{begun + "write 0 2" + ends + "write 0 1, return", solo, []api.Fault{badJust(0, 1), badJust(1, 0)}},                                 // neither is alone
		{begun + "read 0 2" + ends + "write 0 1, return", readOnly, []api.Fault{badJust(1, 0)}},                                             // a Write beside a Read
		{begun + "write 0 2" + ends + "read 0 1, return", readOnly, []api.Fault{badJust(0, 1)}},                                             // the other way round
		{guarded + "write 0 3" + unlocked + "write 0 1, return", by(0), []api.Fault{badJust(1, 0)}},                                         // one without the lock
		{guarded + "read 0 3" + unlocked + "write 0 1, return", by(0), []api.Fault{badJust(1, 0)}},                                          // likewise
		{guarded + "write 0 3" + unlocked + "read 0 1, return", by(0), []api.Fault{badJust(1, 0)}},                                          // a Read without it
		{guarded + "write 0 3" + unlocked + "lock 1 1, write 0 2, unlock 1 3, return", by(0), []api.Fault{badJust(1, 1)}},                   // with another lock
		{guarded + "write 0 3" + unlocked + "lock 0 1, unlock 0 2, write 0 3, return", by(0), []api.Fault{badJust(1, 2)}},                   // which it gave back
		{begun + "read 0 2" + ends + "lock 1 1, write 0 2, return", by(1), []api.Fault{badJust(0, 1)}},                                      // which one has alone
		{begun + "call 2 2, return, func, write 0 1, return, func, read 0 1, return", readOnly, []api.Fault{badJust(1, 0)}},                 // in a callee
		{begun + "lock 1 2, call 2 3" + ends + "call 2 1, return, func, write 0 1, return", by(1), []api.Fault{badJust(2, 0)}},              // that one calls without it
		{begun + "spawn 2 0 2, join 0 3, read 0 4" + ends + "write 0 1, return, func, return", readOnly, []api.Fault{badJust(1, 0)}},        // who is lost isn't joined
		{begun + "write 0 2, join 0 3, write 0 4" + ends + "write 0 1, return", solo, []api.Fault{badJust(0, 1), badJust(1, 0)}},            // and one that is alone
		{begun + "join 0 2, write 0 3" + ends + "spawn 2 0 1" + ends + "read 0 1, return", solo, []api.Fault{badJust(0, 2), badJust(2, 0)}}, // who is joined leaves somebody
	} {
		p := parsed(t, c.lines)
		l := tellAll(p, always(1<<16-1), always(0))
		settle(t, p, l)
		if all, _ := checkJusts(t, p, l, []api.Just{c.j}); !slices.Equal(all, c.want) {
			t.Errorf("%s: %v", c.lines, all)
		}
		if d := dice(175); !races(&d, p, 200) {
			t.Errorf("%s: nobody races", c.lines)
		}
	}
}
