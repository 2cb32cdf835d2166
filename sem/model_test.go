package sem

import (
	"testing"

	"alibi/api"
)

// dice are numbers that follow a rule, but look as if they didn't.
type dice uint32

// below answers the next number below n.
func (d *dice) below(n int) int {
	*d = *d*1664525 + 1013904223
	return int(*d>>8) % n
}

// place is a function, and a node of it.
type place struct{ f, n int }

// spot is a thread's slot.
type spot struct{ thread, slot int }

// world is a config, told in another way: what isn't in a map has nobody.
type world struct {
	stacks [][]place // of each thread
	has    map[int]int
	in     map[spot]int
}

// worldAtFirst is what a program begins with.
func worldAtFirst() world {
	return world{stacks: [][]place{{{0, 0}}}, has: map[int]int{}, in: map[spot]int{}}
}

// lives tells whether a thread lives.
func (w world) lives(t int) bool {
	return t >= 0 && t < len(w.stacks) && len(w.stacks[t]) != 0
}

// node is where a living thread is.
func (w world) node(p api.Program, t int) api.Node {
	top := w.stacks[t][len(w.stacks[t])-1]
	return p.Funcs[top.f][top.n]
}

// enabled tells whether a thread may do a step; else why not.
func (w world) enabled(p api.Program, t int) (bool, string) {
	if !w.lives(t) {
		return false, "dead"
	}
	n := w.node(p, t)
	owner, owned := w.has[n.Arg]
	if n.Kind == 3 && owned {
		switch {
		case owner == t:
			return false, "own lock"
		case !w.lives(owner):
			return false, "lock of the dead"
		}
		return false, "lock"
	}
	other, filled := w.in[spot{t, n.Arg}]
	if n.Kind == 6 && filled && w.lives(other) {
		return false, "join"
	}
	if n.Kind == 5 && len(w.stacks) == 8 {
		return false, "spawn"
	}
	return true, ""
}

// step answers the world behind a step.
func (w world) step(p api.Program, t int, way bool) world {
	next := worldAtFirst()
	next.stacks = nil
	for _, s := range w.stacks {
		next.stacks = append(next.stacks, append([]place(nil), s...))
	}
	for lock, owner := range w.has {
		next.has[lock] = owner
	}
	for at, other := range w.in {
		next.in[at] = other
	}
	if ok, _ := w.enabled(p, t); !ok {
		return next
	}
	n, last := w.node(p, t), len(next.stacks[t])-1
	f, rest := next.stacks[t][last].f, next.stacks[t][:last:last]
	switch {
	case n.Kind == 9:
		next.stacks[t] = rest
	case n.Kind == 8 && way:
		next.stacks[t] = append(rest, place{f, n.Alt})
	case n.Kind == 7:
		next.stacks[t] = append(rest, place{f, n.Next}, place{n.Arg, 0})
	default:
		next.stacks[t] = append(rest, place{f, n.Next})
	}
	owner, owned := w.has[n.Arg]
	switch {
	case n.Kind == 3:
		next.has[n.Arg] = t
	case n.Kind == 4 && owned && owner == t:
		delete(next.has, n.Arg)
	case n.Kind == 5:
		next.in[spot{t, n.Alt}] = len(w.stacks)
		next.stacks = append(next.stacks, []place{{n.Arg, 0}})
	}
	return next
}

// config answers the config that a world tells.
func (w world) config() Config {
	var c Config
	for t, s := range w.stacks {
		var one Thread
		for _, at := range s {
			one.Stack = append(one.Stack, Frame{at.f, at.n})
		}
		for slot := range 8 {
			if other, filled := w.in[spot{t, slot}]; filled {
				one.Slots[slot] = other + 1
			}
		}
		c.Threads = append(c.Threads, one)
	}
	for lock, owner := range w.has {
		c.Owners[lock] = owner + 1
	}
	return c
}

// alike tells whether two configs are alike, number by number.
func alike(a, b Config) bool {
	if len(a.Threads) != len(b.Threads) {
		return false
	}
	for lock := range 16 {
		if a.Owners[lock] != b.Owners[lock] {
			return false
		}
	}
	for t := range a.Threads {
		one, other := a.Threads[t], b.Threads[t]
		if len(one.Stack) != len(other.Stack) {
			return false
		}
		for i := range one.Stack {
			if one.Stack[i].Func != other.Stack[i].Func || one.Stack[i].Node != other.Stack[i].Node {
				return false
			}
		}
		for slot := range 8 {
			if one.Slots[slot] != other.Slots[slot] {
				return false
			}
		}
	}
	return true
}

// checkAsked holds what is told of a config's threads against the world.
func checkAsked(t *testing.T, p api.Program, c Config, w world) {
	t.Helper()
	for who := -2; who <= 9; who++ {
		if got, want := c.Lives(who), w.lives(who); got != want {
			t.Fatalf("Lives(%d) = %v: %v of %v", who, got, c, p)
		}
		var at api.Node
		if w.lives(who) {
			at = w.node(p, who)
		}
		if got, ok := c.At(p, who); got != at || ok != w.lives(who) {
			t.Fatalf("At(%d) = %v, %v, not %v: %v of %v", who, got, ok, at, c, p)
		}
		var held uint32
		for lock, owner := range w.has {
			if owner == who {
				held += 1 << lock
			}
		}
		if got := c.Held(who); got != held {
			t.Fatalf("Held(%d) = %b, not %b: %v of %v", who, got, held, c, p)
		}
		may, _ := w.enabled(p, who)
		if got := c.Enabled(p, who); got != may {
			t.Fatalf("Enabled(%d) = %v: %v of %v", who, got, c, p)
		}
	}
}

// checkStep holds the config behind a step against the world, and answers both.
func checkStep(t *testing.T, p api.Program, c Config, w world, x api.Pick) (Config, world) {
	t.Helper()
	next, want := c.Step(p, x), w.step(p, x.Who, x.Way)
	if !alike(next, want.config()) {
		t.Fatalf("Step(%v) = %v, not %v: %v of %v", x, next, want.config(), c, p)
	}
	if !alike(c, w.config()) {
		t.Fatalf("Step(%v) made %v of %v", x, c, w.config())
	}
	if got, same := Same(c, next), alike(c, next); got != same {
		t.Fatalf("Same(%v, %v) = %v", c, next, got)
	}
	return next, want
}

// start answers what a program begins with, that may be.
func start(t *testing.T, p api.Program) Config {
	t.Helper()
	c, e := Start(p)
	if e != api.OK || !alike(c, worldAtFirst().config()) {
		t.Fatalf("Start(%v) = %v, %d", p, c, e)
	}
	return c
}

// run answers the config behind picks without Way, one for each number, of what a program begins with.
func run(t *testing.T, p api.Program, whos ...int) Config {
	t.Helper()
	c := start(t, p)
	for _, who := range whos {
		c = c.Step(p, api.Pick{Who: who})
	}
	return c
}

// full is a program with all that there may be of everything, of functions.
func full(funcs ...[]api.Node) api.Program {
	return api.Program{Globals: 16, Locks: 16, Slots: 8, Funcs: funcs}
}

// row is a function of nodes, each of which goes on at the next one (a branch: at itself with Way), and a Return.
func row(l ...api.Node) []api.Node {
	var nodes []api.Node
	for i, n := range l {
		n.Next = i + 1
		if n.Kind == api.Branch {
			n.Alt = i
		}
		nodes = append(nodes, n)
	}
	return append(nodes, api.Node{Kind: api.Return})
}

// frames answers places, by pairs of numbers.
func frames(l ...int) []Frame {
	var s []Frame
	for i := 0; i+1 < len(l); i += 2 {
		s = append(s, Frame{l[i], l[i+1]})
	}
	return s
}

// anything answers a program that may be, of as many functions at most, that does whatever dice say.
func anything(d *dice, most int) api.Program {
	p := api.Program{Globals: 1, Locks: 1 + d.below(3), Slots: 1 + d.below(3), Funcs: make([][]api.Node, 1+d.below(most))}
	if d.below(8) == 0 {
		p.Globals, p.Locks, p.Slots = 16, 16, 8
	}
	kinds := []int{0, 1, 2, 3, 3, 3, 4, 4, 5, 5, 6, 6, 7, 7, 7, 8, 8, 9}
	for f := range p.Funcs {
		nodes := make([]api.Node, 1+d.below(8))
		for i := range nodes {
			kind := kinds[d.below(len(kinds))]
			if kind == 7 && f+1 == len(p.Funcs) { // it could only call what calls it
				kind = 5
			}
			n := api.Node{Kind: kind, Next: d.below(len(nodes))}
			switch kind {
			case 1, 2:
				n.Arg = d.below(p.Globals)
			case 3, 4:
				n.Arg = d.below(p.Locks)
			case 5:
				n.Arg, n.Alt = d.below(len(p.Funcs)), d.below(p.Slots)
			case 6:
				n.Arg = d.below(p.Slots)
			case 7:
				n.Arg = f + 1 + d.below(len(p.Funcs)-f-1)
			case 8:
				n.Alt = d.below(len(nodes))
			case 9:
				n.Next = 0
			}
			nodes[i] = n
		}
		p.Funcs[f] = nodes
	}
	return p
}
