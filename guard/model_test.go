package guard

import (
	"math"
	"slices"
	"strings"
	"testing"

	"alibi/api"
	"alibi/kill"
	"alibi/may"
	"alibi/must"
	"alibi/prog"
	"alibi/script"
	"alibi/text"
)

// every is the set of all 32 ids.
const every = math.MaxUint32

// fine is no fault.
var fine = api.Fault{}

// Justifications; solo is the zero one, too, that stands beside a false.
var (
	solo     = api.Just{}
	readOnly = api.Just{Kind: 1}
)

// by answers the justification of a lock.
func by(lock int) api.Just { return api.Just{Kind: 2, Lock: lock} }

// badJust is a justification that doesn't hold there, or may not be.
func badJust(f, at int) api.Fault { return api.Fault{Func: f, Node: at, What: 8} }

// badShape is what isn't shaped.
func badShape() api.Fault { return api.Fault{Func: -1, Node: -1, What: 1} }

// dice are numbers that follow a rule, but look as if they didn't.
type dice uint32

// below answers the next number below n.
func (d *dice) below(n int) int {
	*d = *d*1664525 + 1013904223
	return int(*d>>8) % n
}

// of answers one of some numbers.
func (d *dice) of(l ...int) int { return l[d.below(len(l))] }

// set answers a set, of few ids, of nearly all, or of one that is no lock's and no slot's, or the empty one.
func (d *dice) set() uint32 {
	few := uint32(1)<<d.below(4) | uint32(1)<<d.below(4)
	switch d.below(8) {
	case 0, 1:
		return 0
	case 2:
		return 1 << d.below(32)
	case 3, 4:
		return ^few
	}
	return few
}

// parsed answers the program of a text, whose lines are parted by commas.
func parsed(t *testing.T, s string) api.Program {
	t.Helper()
	p, line, e := text.Parse(strings.ReplaceAll(s, ", ", "\n"))
	if e != api.OK {
		t.Fatalf("%q, line %d: %d", s, line, e)
	}
	return p
}

// tell answers a section that tells, node by node, what is held, and who may live.
func tell(heldLive ...uint32) api.Section {
	var s api.Section
	for at := 0; at < len(heldLive); at += 2 {
		s.Held, s.Live = append(s.Held, heldLive[at]), append(s.Live, heldLive[at+1])
	}
	return s
}

// tellAll answers sections that tell something of each node, and of where functions begin and end.
func tellAll(p api.Program, held, live func() uint32) []api.Section {
	var l []api.Section
	for _, nodes := range p.Funcs {
		s := api.Section{Entry: held(), Exit: held(), LiveEntry: live(), LiveExit: live()}
		for range nodes {
			s.Held, s.Live = append(s.Held, held()), append(s.Live, live())
		}
		l = append(l, s)
	}
	return l
}

// always answers what tells one set again and again.
func always(m uint32) func() uint32 { return func() uint32 { return m } }

// has tells whether an id is in a set; no other number is.
func has(m uint32, id int) bool { return id >= 0 && id < 32 && m>>id&1 == 1 }

// holds tells, by the chapter's words, whether a justification holds for an access.
func holds(j api.Just, write bool, held, live uint32) bool {
	return live == 0 || j.Kind == 1 && !write || j.Kind == 2 && has(held, j.Lock)
}

// mayBe tells, by the chapter's words, whether a justification may be.
func mayBe(j api.Just, locks int) bool {
	return j == solo || j == readOnly || j.Kind == 2 && 0 <= j.Lock && j.Lock < locks
}

// access is an access of a program, and what sections tell of its node.
type access struct {
	f, at, global int
	write         bool
	held, live    uint32
}

// accesses answers all accesses of whose nodes sections tell what is held, function by function, node by node.
func accesses(p api.Program, l []api.Section) []access {
	var all []access
	for f, nodes := range p.Funcs {
		for at, n := range nodes {
			if n.Kind != 1 && n.Kind != 2 || f >= len(l) || at >= len(l[f].Held) {
				continue
			}
			a := access{f: f, at: at, global: n.Arg, write: n.Kind == 2, held: l[f].Held[at], live: every}
			if at < len(l[f].Live) {
				a.live = l[f].Live[at]
			}
			all = append(all, a)
		}
	}
	return all
}

// wrongs answers all that is wrong, in the chapter's order, with justifications of a program that may be.
func wrongs(p api.Program, l []api.Section, js []api.Just) []api.Fault {
	shaped := len(l) == len(p.Funcs) && len(js) == p.Globals
	for f := 0; shaped && f < len(l); f++ {
		shaped = len(l[f].Held) == len(p.Funcs[f]) && len(l[f].Live) == len(p.Funcs[f])
	}
	if !shaped {
		return []api.Fault{badShape()}
	}
	var all []api.Fault
	for g, j := range js {
		if !mayBe(j, p.Locks) {
			all = append(all, badJust(-1, g))
		}
	}
	for _, a := range accesses(p, l) {
		if !holds(js[a.global], a.write, a.held, a.live) {
			all = append(all, badJust(a.f, a.at))
		}
	}
	return all
}

// needs answers, lock by lock, what is asked of the accesses to a global.
func needs(p api.Program, l []api.Section, g int) (held uint32, some, writes bool) {
	held = every
	for _, a := range accesses(p, l) {
		if a.global != g || a.live == 0 {
			continue
		}
		some, writes = true, writes || a.write
		for lock := range 32 {
			if !has(a.held, lock) {
				held &^= 1 << lock
			}
		}
	}
	return held, some, writes
}

// best answers, of all justifications that may be, from Solo to the greatest lock, the first one that holds for all accesses to a global.
func best(p api.Program, l []api.Section, g int) (api.Just, bool) {
	all := []api.Just{solo, readOnly}
	for lock := range min(max(p.Locks, 0), 32) {
		all = append(all, by(lock))
	}
	for _, j := range all {
		if !slices.ContainsFunc(accesses(p, l), func(a access) bool { return a.global == g && !holds(j, a.write, a.held, a.live) }) {
			return j, true
		}
	}
	return api.Just{}, false
}

// check holds what is told of justifications against what should be.
func check(t *testing.T, p api.Program, l []api.Section, js []api.Just, want api.Fault, wantErr api.Errno) {
	t.Helper()
	if fault, e := Check(p, l, js); fault != want || e != wantErr {
		t.Fatalf("Check(%v, %b, %v) = %v, %d, not %v, %d", p, l, js, fault, e, want, wantErr)
	}
}

// checkJusts holds what is told of justifications against the chapter's words; it answers all that is wrong, and whether the program may be.
func checkJusts(t *testing.T, p api.Program, l []api.Section, js []api.Just) ([]api.Fault, bool) {
	t.Helper()
	if _, _, e := prog.Check(p); e != api.OK {
		check(t, p, l, js, fine, e)
		return nil, false
	}
	all := wrongs(p, l, js)
	check(t, p, l, js, append(all, fine)[0], api.OK)
	return all, true
}

// checkBest holds what is needed for a global, and what is best, against the chapter's words, and answers the best.
func checkBest(t *testing.T, p api.Program, l []api.Section, g int) (api.Just, bool) {
	t.Helper()
	held, some, writes := Needs(p, l, g)
	if h, s, w := needs(p, l, g); held != h || some != s || writes != w {
		t.Fatalf("Needs(%v, %b, %d) = %b, %t, %t, not %b, %t, %t", p, l, g, held, some, writes, h, s, w)
	}
	j, ok := Best(p, l, g)
	if want, is := best(p, l, g); j != want || ok != is {
		t.Fatalf("Best(%v, %b, %d) = %v, %t, not %v, %t", p, l, g, j, ok, want, is)
	}
	return j, ok
}

// bests answers the best of each global, and whether each has one; where there is none it stays Solo.
func bests(t *testing.T, p api.Program, l []api.Section) ([]api.Just, bool) {
	t.Helper()
	js, all := make([]api.Just, p.Globals), true
	for g := range js {
		j, ok := checkBest(t, p, l, g)
		js[g], all = j, all && ok
	}
	return js, all
}

// settle takes from sections that are shaped what needn't be held, and adds who may live, until chapters 15 and 16 find no fault.
func settle(t *testing.T, p api.Program, l []api.Section) {
	t.Helper()
	settleHeld(p, l)
	settleLive(p, l)
	for _, of := range []func(api.Program, []api.Section) (api.Fault, api.Errno){must.Check, may.Check} {
		if fault, e := of(p, l); fault != fine || e != api.OK {
			t.Fatalf("%v, %b: %v, %d", p, l, fault, e)
		}
	}
}

// settleHeld goes lock by lock, as no lock has to do with another one: so a fault is always one of that lock.
func settleHeld(p api.Program, l []api.Section) {
	for lock := range api.MaxLocks {
		one := uint32(1) << lock
		alone := make([]api.Section, len(l))
		for f, s := range l {
			alone[f] = api.Section{Entry: s.Entry & one, Exit: s.Exit & one, Live: s.Live}
			for _, m := range s.Held {
				alone[f].Held = append(alone[f].Held, m&one)
			}
		}
		for fault, _ := must.Check(p, alone); fault != fine; fault, _ = must.Check(p, alone) {
			clearHeld(p, alone, fault)
		}
		for f, s := range alone {
			l[f].Entry, l[f].Exit = l[f].Entry&^one|s.Entry, l[f].Exit&^one|s.Exit
			for at, m := range s.Held {
				l[f].Held[at] = l[f].Held[at]&^one | m
			}
		}
	}
}

// clearHeld takes away the lock that is at fault.
func clearHeld(p api.Program, l []api.Section, fault api.Fault) {
	s := &l[fault.Func]
	switch {
	case fault.What == api.BadEntry:
		s.Entry = 0
	case fault.Node < 0:
		s.Held[0] = 0
	case fault.What == api.BadExit:
		s.Exit = 0
	case fault.What == api.BadCall:
		l[p.Funcs[fault.Func][fault.Node].Arg].Entry = 0
	default:
		for _, to := range prog.Succ(p.Funcs[fault.Func][fault.Node]) {
			s.Held[to] = 0
		}
	}
}

// settleLive adds what may live, fault by fault.
func settleLive(p api.Program, l []api.Section) {
	begins, _ := kill.Begins(p)
	for fault, _ := may.Check(p, l); fault != fine; fault, _ = may.Check(p, l) {
		s := &l[fault.Func]
		if fault.Node < 0 {
			s.Live[0] |= s.LiveEntry
			continue
		}
		n, live := p.Funcs[fault.Func][fault.Node], s.Live[fault.Node]
		exit := uint32(0)
		switch n.Kind {
		case api.Spawn:
			l[n.Arg].LiveEntry |= 1 << may.Lost(p)
		case api.Call:
			l[n.Arg].LiveEntry |= live
			exit = l[n.Arg].LiveExit
		case api.Return:
			s.LiveExit |= live
		}
		for _, to := range prog.Succ(n) {
			s.Live[to] |= may.Behind(n, live, exit, may.Lost(p), has(begins, n.Arg))
		}
	}
}

// races tells whether, on one of some scripts, two threads race.
func races(d *dice, p api.Program, scripts int) bool {
	for range scripts {
		picks, threads := make([]api.Pick, 40), 1+d.below(4)
		for i := range picks {
			picks[i] = api.Pick{Who: d.below(threads), Way: d.below(2) == 0}
		}
		if _, met := script.Meets(p, picks); met {
			return true
		}
	}
	return false
}

// anyCounts answers a program without functions.
func anyCounts(d *dice) api.Program {
	return api.Program{Globals: d.of(0, 1, 1, 2, 3, 16), Locks: d.of(0, 1, 2, 2, 3, 16), Slots: d.of(1, 1, 2, 8)}
}

// anyProgram answers a program that may be, of so many functions of so many nodes at most, as dice fall: each calls but greater ones, and mostly goes on node by node.
func anyProgram(d *dice, p api.Program, funcs, most int) api.Program {
	p.Funcs = make([][]api.Node, funcs)
	for f := range p.Funcs {
		size := 1 + d.below(most)
		for at := range size - 1 {
			p.Funcs[f] = append(p.Funcs[f], anyNode(d, p, f, at, size))
		}
		p.Funcs[f] = append(p.Funcs[f], api.Node{Kind: api.Return})
	}
	return p
}

// anyNode answers a node that may be there.
func anyNode(d *dice, p api.Program, f, at, size int) api.Node {
	for {
		n := api.Node{Kind: d.of(0, 1, 1, 2, 2, 3, 3, 4, 5, 5, 6, 7, 8), Next: at + 1}
		if d.below(20) == 0 {
			n.Next = d.below(size)
		}
		switch n.Kind {
		case api.Read, api.Write:
			n.Arg = d.below(max(p.Globals, 1))
		case api.Lock, api.Unlock:
			n.Arg = d.below(max(p.Locks, 1))
		case api.Join:
			n.Arg = d.below(p.Slots)
		case api.Branch:
			n.Alt = d.below(size)
		case api.Spawn:
			n.Arg, n.Alt = d.below(len(p.Funcs)), d.below(p.Slots)
		case api.Call:
			n.Arg = f + d.below(len(p.Funcs)-f)
		}
		if prog.May(p, n, size) && (n.Kind != api.Call || n.Arg > f) {
			return n
		}
	}
}

// anyJusts answers a justification for each of so many globals, most of which may be.
func anyJusts(d *dice, count, locks int) []api.Just {
	js := make([]api.Just, count)
	for g := range js {
		js[g] = []api.Just{solo, readOnly, by(d.below(max(locks, 1)))}[d.below(3)]
		if d.below(40) == 0 {
			js[g] = api.Just{Kind: d.of(-1, 0, 1, 2, 3, 9), Lock: d.of(-1, 0, 1, locks, locks-1, 32)}
		}
	}
	return js
}

// refused are programs that may not be, each with chapter 5's error.
func refused() map[api.Errno][]api.Program {
	last := api.Node{Kind: api.Return}
	of := func(n api.Node) api.Program {
		return api.Program{Globals: 1, Locks: 1, Slots: 1, Funcs: [][]api.Node{{n, last}, {last}}}
	}
	counts := func(globals, locks, slots int) api.Program {
		return api.Program{Globals: globals, Locks: locks, Slots: slots, Funcs: [][]api.Node{{last}}}
	}
	return map[api.Errno][]api.Program{
		api.ErrArg: {
			{}, {Globals: 1}, counts(-1, 0, 0), counts(math.MinInt, 0, 0), counts(0, -1, 0), counts(0, 0, -1),
			{Globals: 1, Funcs: [][]api.Node{{{Kind: api.Read}}, nil}}, {Funcs: [][]api.Node{{}}},
		},
		api.ErrLong: {
			counts(17, 0, 0), counts(33, 0, 0), counts(0, 17, 0), counts(0, 0, 9), counts(16, math.MaxInt, 8),
			{Funcs: slices.Repeat([][]api.Node{{last}}, 17)}, {Funcs: [][]api.Node{make([]api.Node, 65)}},
		},
		api.ErrForm: {
			of(api.Node{Kind: 10}), of(api.Node{Kind: -1}), of(api.Node{Kind: api.Read, Arg: 1}), of(api.Node{Kind: api.Write, Arg: -1}),
			of(api.Node{Kind: api.Write, Next: 2}), of(api.Node{Kind: api.Read, Alt: 1}), of(api.Node{Kind: api.Write, Arg: math.MaxInt}),
		},
		api.ErrRound: {
			of(api.Node{Kind: api.Call}), {Funcs: [][]api.Node{{last}, {last, {Kind: api.Call, Arg: 1}}}},
			{Globals: 1, Funcs: [][]api.Node{{{Kind: api.Write, Next: 1}, {Kind: api.Call, Arg: 1}}, {{Kind: api.Call}}}},
		},
	}
}
