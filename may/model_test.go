package may

import (
	"math"
	"slices"
	"strings"
	"testing"

	"alibi/api"
	"alibi/prog"
	"alibi/script"
	"alibi/sem"
	"alibi/text"
)

// every is the set of all 32 ids.
const every = math.MaxUint32

// dice are numbers that follow a rule, but look as if they didn't.
type dice uint32

// below answers the next number below n.
func (d *dice) below(n int) int {
	*d = *d*1664525 + 1013904223
	return int(*d>>8) % n
}

// set answers a set of some ids, few or many, some of them neither slots nor lost of any program.
func (d *dice) set() uint32 {
	m := uint32(0)
	for range d.below(4) {
		m |= 1 << d.below(4)
	}
	switch d.below(12) {
	case 0:
		m |= 1 << d.below(32)
	case 1:
		m = ^m
	}
	return m
}

// parsed answers the program of a text, whose lines are parted by commas.
func parsed(t *testing.T, s string) api.Program {
	t.Helper()
	p, line, e := text.Parse(strings.ReplaceAll(s, ", ", "\n"))
	if e != api.OK {
		t.Fatalf("%q, line %d: %d", s, line, e)
	}
	return p
}

// tell answers a section that tells who may live where its function begins and ends, and at its nodes.
func tell(entry, exit uint32, live ...uint32) api.Section {
	return api.Section{LiveEntry: entry, LiveExit: exit, Held: make([]uint32, len(live)), Live: live}
}

// none tells nothing.
func none() uint32 { return 0 }

// tellAll answers sections that tell something everywhere, of what is held, too.
func tellAll(p api.Program, m func() uint32) []api.Section {
	var l []api.Section
	for _, nodes := range p.Funcs {
		s := tell(m(), m())
		s.Entry, s.Exit = m(), m()
		for range nodes {
			s.Held, s.Live = append(s.Held, m()), append(s.Live, m())
		}
		l = append(l, s)
	}
	return l
}

// refused are programs that may not be, each with chapter 5's error.
func refused() map[api.Errno][]api.Program {
	ret := []api.Node{{Kind: api.Return}}
	of := func(l ...api.Node) api.Program {
		return api.Program{Globals: 1, Locks: 1, Slots: 1, Funcs: [][]api.Node{append(l, ret...), ret}}
	}
	return map[api.Errno][]api.Program{
		api.ErrArg: {
			{}, {Slots: -1, Funcs: [][]api.Node{ret}}, {Locks: -1, Funcs: [][]api.Node{ret}}, {Globals: math.MinInt, Funcs: [][]api.Node{ret}},
			{Slots: 1, Funcs: [][]api.Node{{{Kind: api.Join}}, nil}}, {Funcs: [][]api.Node{{}}}, {Funcs: [][]api.Node{nil, ret}},
		},
		api.ErrLong: {
			{Slots: 9, Funcs: [][]api.Node{ret}}, {Slots: 32, Funcs: [][]api.Node{ret}}, {Globals: 17, Funcs: [][]api.Node{ret}},
			{Locks: 17, Funcs: [][]api.Node{ret}}, {Funcs: slices.Repeat([][]api.Node{ret}, 33)}, {Funcs: [][]api.Node{make([]api.Node, 65)}},
			{Globals: math.MaxInt, Locks: math.MaxInt, Slots: math.MaxInt, Funcs: [][]api.Node{ret}},
		},
		api.ErrForm: {
			of(api.Node{Kind: 10}), of(api.Node{Kind: -1}), of(api.Node{Next: 2}), of(api.Node{Next: -1}), of(api.Node{Kind: api.Join, Arg: 1}),
			of(api.Node{Kind: api.Join, Arg: -1}), of(api.Node{Kind: api.Branch, Alt: math.MaxInt}), of(api.Node{Kind: api.Spawn, Arg: 2}),
			of(api.Node{Kind: api.Spawn, Alt: 1}), of(api.Node{Kind: api.Spawn, Arg: -1}), of(api.Node{Kind: api.Call, Arg: math.MinInt}),
		},
		api.ErrRound: {
			of(api.Node{Kind: api.Call}), of(api.Node{Kind: api.Spawn}, api.Node{Kind: api.Call}),
			{Funcs: [][]api.Node{ret, {{Kind: api.Call, Arg: 1}}}}, // which nobody calls
			{Funcs: [][]api.Node{ret, {{Kind: api.Return}, {Kind: api.Call, Arg: 2}}, {{Kind: api.Return}, {Kind: api.Call, Arg: 1}}}},
		},
	}
}

// has tells whether an id is in a set; no other number is.
func has(m uint32, id int) bool { return id >= 0 && id < 32 && m>>id&1 == 1 }

// within tells whether what is in a set is in another one.
func within(a, b uint32) bool {
	for id := range 32 {
		if has(a, id) && !has(b, id) {
			return false
		}
	}
	return true
}

// areShaped tells, by the chapter's words, whether sections are shaped.
func areShaped(p api.Program, l []api.Section) bool {
	sizes := func(f int) [2]int { return [2]int{len(l[f].Held), len(l[f].Live)} }
	for f := range min(len(l), len(p.Funcs)) {
		if size := len(p.Funcs[f]); sizes(f) != [2]int{size, size} {
			return false
		}
	}
	return len(l) == len(p.Funcs)
}

// beginners answers which functions may do a Spawn: those that have one, and, again and again, those that call one that may.
func beginners(p api.Program) []bool {
	may := make([]bool, len(p.Funcs))
	for range p.Funcs { // calls go no deeper
		for f, nodes := range p.Funcs {
			may[f] = may[f] || slices.ContainsFunc(nodes, func(n api.Node) bool { return n.Kind == 5 || n.Kind == 7 && may[n.Arg] })
		}
	}
	return may
}

// liveBehind answers who may live behind a node, id by id.
func liveBehind(n api.Node, live, exit uint32, lost int, begins bool) uint32 {
	m := uint32(0)
	for id := range 32 {
		is := has(live, id)
		switch n.Kind {
		case 5:
			is = is || id == n.Alt || id == lost && (begins || has(live, n.Alt))
		case 6:
			is = is && id != n.Arg
		case 7:
			is = has(exit, id)
		}
		if is {
			m |= 1 << id
		}
	}
	return m
}

// behindAt answers who may live behind a node of a program of which sections tell.
func behindAt(p api.Program, l []api.Section, may []bool, n api.Node, live uint32) uint32 {
	switch n.Kind {
	case 5:
		return liveBehind(n, live, 0, p.Slots, may[n.Arg])
	case 7:
		return liveBehind(n, live, l[n.Arg].LiveExit, p.Slots, false)
	}
	return liveBehind(n, live, every, p.Slots, true)
}

// wrongs answers all that is wrong, in the chapter's order, with sections of a program that may be.
func wrongs(p api.Program, l []api.Section) []api.Fault {
	if !areShaped(p, l) {
		return []api.Fault{{Func: -1, Node: -1, What: 1}}
	}
	var all []api.Fault
	may := beginners(p)
	add := func(is bool, f, at, what int) {
		if is {
			all = append(all, api.Fault{Func: f, Node: at, What: what})
		}
	}
	for f, nodes := range p.Funcs {
		add(!within(l[f].LiveEntry, l[f].Live[0]), f, -1, 6)
		for at, n := range nodes {
			live := l[f].Live[at]
			behind := behindAt(p, l, may, n, live)
			add(n.Kind == 7 && !within(live, l[n.Arg%len(l)].LiveEntry), f, at, 6)
			add(n.Kind == 9 && !within(live, l[f].LiveExit), f, at, 6)
			add(n.Kind == 5 && !has(l[n.Arg%len(l)].LiveEntry, p.Slots), f, at, 7)
			add(n.Kind != 9 && !within(behind, l[f].Live[n.Next]) || n.Kind == 8 && !within(behind, l[f].Live[n.Alt]), f, at, 6)
		}
	}
	return all
}

// check holds what is told of sections against what should be.
func check(t *testing.T, p api.Program, l []api.Section, want api.Fault, wantErr api.Errno) {
	t.Helper()
	if fault, e := Check(p, l); fault != want || e != wantErr {
		t.Fatalf("Check(%v, %b) = %v, %d, not %v, %d", p, l, fault, e, want, wantErr)
	}
}

// checkSections holds what is told of sections against the chapter's words; it answers all that is wrong, and whether the program may be.
func checkSections(t *testing.T, p api.Program, l []api.Section) ([]api.Fault, bool) {
	t.Helper()
	if _, _, e := prog.Check(p); e != api.OK {
		check(t, p, l, api.Fault{}, e)
		return nil, false
	}
	all := wrongs(p, l)
	check(t, p, l, append(all, api.Fault{})[0], api.OK)
	return all, true
}

// settle adds ids to sections that are shaped, until nothing is wrong.
func settle(p api.Program, l []api.Section) {
	changed, may := true, beginners(p)
	raise := func(m *uint32, by uint32) {
		changed = changed || !within(by, *m)
		*m |= by
	}
	for changed {
		changed = false
		for f, nodes := range p.Funcs {
			raise(&l[f].Live[0], l[f].LiveEntry)
			for at, n := range nodes {
				live := l[f].Live[at]
				switch n.Kind {
				case 5:
					raise(&l[n.Arg].LiveEntry, 1<<p.Slots)
				case 7:
					raise(&l[n.Arg].LiveEntry, live)
				case 9:
					raise(&l[f].LiveExit, live)
					continue
				}
				behind := behindAt(p, l, may, n, live)
				raise(&l[f].Live[n.Next], behind)
				if n.Kind == 8 {
					raise(&l[f].Live[n.Alt], behind)
				}
			}
		}
	}
}

// sight answers where a thread has another one: in a slot, or, as lost, in none.
func sight(p api.Program, c sem.Config, who, other int) int {
	if slot := slices.Index(c.Threads[who].Slots[:], other+1); slot >= 0 {
		return slot
	}
	return p.Slots
}

// met is how often, on the way of scripts, a thread was where nobody else is told to live.
type met struct {
	alone   int // and nobody did, though there had been others
	crowded int // and somebody did
	untold  int // how often somebody lived who isn't told to, where others may be told to
}

// along goes along a script, and counts what is met.
func (m *met) along(p api.Program, l []api.Section, picks []api.Pick) {
	for _, c := range script.Along(p, picks) {
		for who, thread := range c.Threads {
			if !c.Lives(who) {
				continue
			}
			others, place := 0, thread.Stack[len(thread.Stack)-1]
			s := l[place.Func]
			for other := range c.Threads {
				if other == who || !c.Lives(other) {
					continue
				}
				others++
				if !has(s.Live[place.Node], sight(p, c, who, other)) {
					m.untold++
				}
			}
			if !Solo(s, place.Node) || len(c.Threads) == 1 {
				continue
			}
			if others > 0 {
				m.crowded++
			} else {
				m.alone++
			}
		}
	}
}

// anyPicks answers a script of so many picks of a few threads, as dice fall.
func anyPicks(d *dice, count int) []api.Pick {
	l, threads := make([]api.Pick, count), 1+d.below(5)
	for i := range l {
		l[i] = api.Pick{Who: d.below(threads), Way: d.below(2) == 0}
	}
	return l
}

// anyNode answers a node that may be there, of as many nodes, as dice fall, of one of some kinds; it calls nobody.
func anyNode(d *dice, p api.Program, size int, kinds []int) api.Node {
	some := func(room int) int { return d.below(max(room, 1)) }
	args := map[int]int{api.Read: p.Globals, api.Write: p.Globals, api.Lock: p.Locks, api.Unlock: p.Locks, api.Spawn: len(p.Funcs), api.Join: p.Slots}
	alts := map[int]int{api.Spawn: p.Slots, api.Branch: size}
	for {
		kind := kinds[d.below(len(kinds))]
		n := api.Node{Kind: kind, Arg: some(args[kind]), Next: some(size), Alt: some(alts[kind])}
		if kind == api.Return {
			n.Next = 0
		}
		if prog.May(p, n, size) { // else there are no slots
			return n
		}
	}
}

// anyProgram answers a program that may be, of so many functions, whose calls may lead from any of them to any other one, as dice fall.
func anyProgram(d *dice, funcs int) api.Program {
	p := api.Program{Globals: 1, Locks: 1, Slots: d.below(3), Funcs: make([][]api.Node, funcs)}
	if d.below(4) == 0 {
		p.Slots = api.MaxSlots
	}
	tame := d.below(2) == 0 // so that few begin others, who end, and may all be joined
	if tame {
		p.Slots = 1 + d.below(2)
	}
	rank := make([]int, funcs) // who is called has a greater one
	for f := range rank {
		rank[f] = f
	}
	for f := range rank {
		g := f + d.below(funcs-f)
		rank[f], rank[g] = rank[g], rank[f]
	}
	kinds, calls := []int{0, 1, 2, 3, 4, 5, 5, 5, 6, 6, 6, 8, 9}, 1+d.below(6)
	if d.below(2) == 0 {
		kinds = []int{0, 2, 5, 5, 6, 6, 9}
	}
	for f := range p.Funcs {
		size := 1 + d.below(6)
		straight := tame || d.below(4) > 0 // so that it ends, if its last node does
		if tame {
			kinds = [][]int{{2, 5, 5, 6, 6, 6}, {0, 2, 6}}[min(f, 1)]
		}
		for at := range size {
			n := anyNode(d, p, size, kinds)
			if g := d.below(funcs); d.below(calls) == 0 && rank[g] > rank[f] {
				n = api.Node{Kind: api.Call, Arg: g, Next: d.below(size)}
			}
			if tame && n.Kind == api.Spawn && n.Arg == 0 && funcs > 1 {
				n.Arg = 1 + d.below(funcs-1)
			}
			if straight && at == size-1 {
				n = api.Node{Kind: api.Return}
			}
			if straight && n.Kind != api.Return {
				n.Next = at + 1
			}
			p.Funcs[f] = append(p.Funcs[f], n)
		}
	}
	return p
}
