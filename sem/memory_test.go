package sem

import (
	"math"
	"slices"
	"testing"

	"alibi/api"
)

// roomy answers a config like another one, with room for more in its lists, that isn't empty.
func roomy(c Config) Config {
	filler := Frame{77, 78}
	threads := make([]Thread, 0, len(c.Threads)+2)
	for _, one := range c.Threads {
		stack := append(slices.Clone(one.Stack), filler, filler)
		threads = append(threads, Thread{Stack: stack[:len(one.Stack)], Slots: one.Slots})
	}
	more := append(threads, Thread{Stack: []Frame{filler}}, Thread{Slots: [8]int{9}})
	return Config{Threads: more[:len(c.Threads)], Owners: c.Owners}
}

// whole answers a config with its spare room, as part of what there is.
func whole(c Config) Config {
	var l []Thread
	for _, one := range c.Threads[:cap(c.Threads)] {
		l = append(l, Thread{Stack: one.Stack[:cap(one.Stack)], Slots: one.Slots})
	}
	return Config{Threads: l, Owners: c.Owners}
}

// spoil fills all that a config's lists have, spare room included.
func spoil(c Config) {
	for _, one := range c.Threads[:cap(c.Threads)] {
		stack := one.Stack[:cap(one.Stack)]
		for i := range stack {
			stack[i] = Frame{-55, 55}
		}
	}
	l := c.Threads[:cap(c.Threads)]
	for i := range l {
		l[i] = Thread{Stack: []Frame{{-44, 44}}}
	}
}

// busy is a program, and picks by which a thread does each kind of node, till all end.
func busy() (api.Program, []int) {
	work := row(
		api.Node{Kind: api.Lock}, api.Node{Kind: api.Branch}, api.Node{Kind: api.Call, Arg: 2}, api.Node{Kind: api.Unlock},
		api.Node{Kind: api.Spawn, Arg: 2, Alt: 1}, api.Node{Kind: api.Join, Arg: 1}, api.Node{Kind: api.Write})
	p := full(append([]api.Node{{Kind: api.Spawn, Arg: 1, Next: 1}}, row(make([]api.Node, 5)...)...), work, row(api.Node{Kind: api.Read}))
	for i := range p.Funcs[0][1:6] {
		p.Funcs[0][1+i].Next = 2 + i
	}
	return p, []int{0, 1, 1, 1, 0, 1, 1, 1, 1, 0, 2, 2, 1, 0, 1, 1, 0, 0, 0, 0}
}

// 9.2: neither the config nor the program is changed, spare room included.
func TestNothingHandedInIsChanged(t *testing.T) {
	p, whos := busy()
	kept, _ := busy()
	for f, l := range p.Funcs {
		p.Funcs[f] = append(slices.Clone(l), api.Node{Kind: 99})[:len(l)]
	}
	c := start(t, p)
	for _, who := range whos {
		had, want := roomy(c), roomy(c)
		for who := -1; who < 9; who++ {
			had.Lives(who)
			had.At(p, who)
			had.Held(who)
			had.Enabled(p, who)
			for _, way := range []bool{false, true} {
				spoil(had.Step(p, api.Pick{Who: who, Way: way}))
			}
		}
		Same(had, c)
		if !alike(whole(had), whole(want)) {
			t.Fatalf("%v became %v", whole(want), whole(had))
		}
		c = c.Step(p, api.Pick{Who: who})
	}
	if len(c.Threads) != 3 || c.Lives(0) || c.Lives(1) || c.Lives(2) {
		t.Errorf("the picks don't come to the end: %v", c)
	}
	for f, l := range p.Funcs {
		if !slices.Equal(l, kept.Funcs[f]) || l[:len(l)+1][len(l)] != (api.Node{Kind: 99}) {
			t.Errorf("the function %d was changed: %v", f, l)
		}
	}
}

// 9.1, 9.2: what is handed out is new memory, spare room included; so is what is like the config at hand.
func TestAnswersAreNewMemory(t *testing.T) {
	p, whos := busy()
	first := start(t, p)
	other, _ := Start(p)
	spoil(other)
	if want := (Config{Threads: []Thread{{Stack: frames(0, 0)}}}); !alike(first, want) {
		t.Fatalf("two starts share memory: %v", first)
	}
	start(t, p)
	c, w := first, worldAtFirst()
	for _, who := range whos {
		kept := c.Step(p, api.Pick{Who: -1})
		spoil(c.Step(p, api.Pick{Who: who}))
		spoil(c.Step(p, api.Pick{Who: -1}))
		if !alike(c, w.config()) || !alike(kept, c) {
			t.Fatalf("an answer shares memory: %v, %v", c, kept)
		}
		next := c.Step(p, api.Pick{Who: who})
		spoil(c)
		spoil(kept)
		w = w.step(p, who, false)
		if !alike(next, w.config()) {
			t.Fatalf("an answer shares memory: %v, not %v", next, w.config())
		}
		c = next
	}
}

// 9.2: no two stacks of one answer share memory.
func TestStacksAreApart(t *testing.T) {
	p, whos := busy()
	c, w := start(t, p), worldAtFirst()
	for _, who := range whos {
		w = w.step(p, who, false)
		for t1 := range w.stacks {
			d := c.Step(p, api.Pick{Who: who})
			spoil(Config{Threads: d.Threads[t1 : t1+1 : t1+1]})
			for t2, one := range d.Threads {
				if t1 != t2 && !alike(Config{Threads: []Thread{one}}, Config{Threads: w.config().Threads[t2 : t2+1]}) {
					t.Fatalf("the threads %d and %d share memory: %v", t1, t2, d)
				}
			}
		}
		c = c.Step(p, api.Pick{Who: who})
	}
}

// No call panics: where a node names what there is no room for, a thread stands still.
func TestNodesOfOtherPrograms(t *testing.T) {
	for _, n := range []api.Node{
		{Kind: -1}, {Kind: 10}, {Kind: math.MaxInt}, {Kind: math.MinInt},
		{Kind: api.Lock, Arg: 16}, {Kind: api.Lock, Arg: -1}, {Kind: api.Unlock, Arg: 16}, {Kind: api.Unlock, Arg: math.MinInt},
		{Kind: api.Join, Arg: 8}, {Kind: api.Join, Arg: -1}, {Kind: api.Spawn, Alt: 8}, {Kind: api.Spawn, Alt: -1},
	} {
		c := start(t, full(row()))
		for _, room := range []int{math.MinInt, 0, 9, 17, math.MaxInt} {
			p := api.Program{Globals: room, Locks: room, Slots: room, Funcs: [][]api.Node{{n}}}
			if at, ok := c.At(p, 0); ok || at != (api.Node{}) || c.Enabled(p, 0) || !Same(c, c.Step(p, api.Pick{})) {
				t.Errorf("a step of %v", n)
			}
		}
	}
	for _, at := range []Frame{{-1, 0}, {1, 0}, {0, 1}, {0, -1}, {math.MaxInt, math.MinInt}} {
		c := Config{Threads: []Thread{{Stack: []Frame{at}}}}
		if n, ok := c.At(full(row()), 0); ok || n != (api.Node{}) {
			t.Errorf("there is a node at %v: %v", at, n)
		}
	}
}

// No call panics, of whatever config and program.
func TestConfigsOfOtherPrograms(t *testing.T) {
	d := dice(99)
	odd := func() int {
		l := append(nobodys(), 0, 1, 2, 3, 4, 5, 6, 7, 15, 17, 63, 64)
		if d.below(3) > 0 {
			return d.below(4)
		}
		return l[d.below(len(l))]
	}
	for range 20000 {
		p := api.Program{Globals: odd(), Locks: odd(), Slots: odd(), Funcs: make([][]api.Node, d.below(4))}
		for f := range p.Funcs {
			for range d.below(4) {
				p.Funcs[f] = append(p.Funcs[f], api.Node{Kind: d.below(13) - 1, Arg: odd(), Next: odd(), Alt: odd()})
			}
		}
		c := Config{Threads: make([]Thread, d.below(10))}
		for i := range c.Threads {
			for range d.below(4) {
				c.Threads[i].Stack = append(c.Threads[i].Stack, Frame{odd(), odd()})
			}
			for slot := range 8 {
				c.Threads[i].Slots[slot] = odd()
			}
		}
		for lock := range 16 {
			c.Owners[lock] = odd()
		}
		for range 5 {
			x := api.Pick{Who: odd(), Way: d.below(2) == 0}
			c.Lives(x.Who)
			c.At(p, x.Who)
			c.Held(x.Who)
			c.Enabled(p, x.Who)
			if next := c.Step(p, x); !c.Enabled(p, x.Who) && !alike(c, next) {
				t.Fatalf("Step(%v) made %v of %v", x, next, c)
			} else {
				c = next
			}
		}
	}
	long := Config{Threads: []Thread{{Stack: make([]Frame, 200000)}}}
	if got := long.Step(full(row()), api.Pick{Who: math.MaxInt}); !Same(long, got) {
		t.Errorf("a high stack became %d", len(got.Threads))
	}
}
