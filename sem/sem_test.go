package sem

import (
	"math"
	"slices"
	"testing"

	"alibi/api"
	"alibi/prog"
)

// nobodys are numbers of no thread, of whatever config.
func nobodys() []int {
	return []int{
		math.MinInt, math.MinInt + 1, math.MinInt32, -1 << 32, -256, -9, -8, -2, -1,
		8, 9, 16, 255, 256, 1 << 31, 1 << 32, 1<<32 + 1, math.MaxInt - 1, math.MaxInt,
	}
}

// 9.1
func TestStart(t *testing.T) {
	for _, p := range []api.Program{
		{Funcs: [][]api.Node{row()}},
		{Funcs: [][]api.Node{{{Next: 0}}}},
		full(row(api.Node{Kind: api.Lock, Arg: 15}), row()),
		{Globals: 16, Locks: 16, Slots: 8, Funcs: slices.Repeat([][]api.Node{row()}, 16)},
	} {
		start(t, p)
	}
}

// 9.1: chapter 5's errors, the first one of several, and nothing beside them.
func TestStartOfWhatMayNotBe(t *testing.T) {
	for _, c := range []struct {
		p api.Program
		e api.Errno
	}{
		{api.Program{}, api.ErrArg},
		{api.Program{Locks: -1, Funcs: [][]api.Node{row()}}, api.ErrArg},
		{api.Program{Funcs: [][]api.Node{row(), nil}}, api.ErrArg},
		{api.Program{Slots: 9, Funcs: [][]api.Node{row()}}, api.ErrLong},
		{api.Program{Funcs: slices.Repeat([][]api.Node{row()}, 17)}, api.ErrLong},
		{api.Program{Funcs: [][]api.Node{row(make([]api.Node, 64)...)}}, api.ErrLong},
		{api.Program{Funcs: [][]api.Node{row(), {{Kind: 10}}}}, api.ErrForm},
		{api.Program{Funcs: [][]api.Node{row(api.Node{Kind: api.Lock})}}, api.ErrForm},
		{api.Program{Funcs: [][]api.Node{{{Next: 1}}}}, api.ErrForm},
		{api.Program{Funcs: [][]api.Node{row(), row(api.Node{Kind: api.Call, Arg: 1})}}, api.ErrRound},
		{api.Program{Globals: -1, Locks: 17}, api.ErrArg},
		{api.Program{Funcs: [][]api.Node{row(api.Node{Kind: api.Call}), {{Kind: 10}}}}, api.ErrForm},
	} {
		got, e := Start(c.p)
		if e != c.e || !alike(got, Config{}) {
			t.Errorf("Start(%v) = %v, %d, not %d", c.p, got, e, c.e)
		}
	}
}

// 9.2: of what was refused, and of what never began, nothing lives, and nothing is done.
func TestOfNothing(t *testing.T) {
	p := full(row(api.Node{Kind: api.Lock}))
	refused, _ := Start(api.Program{})
	for _, c := range []Config{{}, refused, {Threads: []Thread{}}} {
		for _, who := range append(nobodys(), 0, 1, 7) {
			n, ok := c.At(p, who)
			if c.Lives(who) || ok || n != (api.Node{}) || c.Held(who) != 0 || c.Enabled(p, who) {
				t.Errorf("%v has a thread %d", c, who)
			}
			if d := c.Step(p, api.Pick{Who: who}); !alike(d, Config{}) || !Same(c, d) {
				t.Errorf("%v became %v", c, d)
			}
		}
	}
}

// 9.2: of a thread that there isn't.
func TestOfNobody(t *testing.T) {
	p := full(row(api.Node{Kind: api.Spawn, Arg: 1}, api.Node{Kind: api.Lock, Arg: 3}), row(api.Node{}))
	for _, c := range []Config{run(t, p), run(t, p, 0), run(t, p, 0, 0), run(t, p, 0, 0, 0)} {
		for _, who := range append(nobodys(), len(c.Threads)) {
			if n, ok := c.At(p, who); c.Lives(who) || ok || n != (api.Node{}) {
				t.Errorf("%v has a thread %d, at %v", c, who, n)
			}
			if m := c.Held(who); m != 0 {
				t.Errorf("%v: nobody, %d, has %b", c, who, m)
			}
			for _, way := range []bool{false, true} {
				if d := c.Step(p, api.Pick{Who: who, Way: way}); c.Enabled(p, who) || !alike(c, d) {
					t.Errorf("a step of nobody, %d, makes %v of %v", who, d, c)
				}
			}
		}
	}
}

// 9.2: by Skip, Read, Write, Join of nobody and Unlock of nobody's a thread goes on alone, whichever way is picked.
func TestStepsThatGoOn(t *testing.T) {
	for _, n := range []api.Node{
		{Kind: api.Skip}, {Kind: api.Read, Arg: 15}, {Kind: api.Write, Arg: 2}, {Kind: api.Join, Arg: 7}, {Kind: api.Unlock, Arg: 15},
	} {
		n.Next = 2
		p := full([]api.Node{n, {Kind: api.Return}, {Next: 2}})
		for _, way := range []bool{false, true} {
			c := start(t, p)
			if at, ok := c.At(p, 0); at != n || !ok || !c.Enabled(p, 0) {
				t.Fatalf("At = %v, %v", at, ok)
			}
			want := Config{Threads: []Thread{{Stack: frames(0, 2)}}}
			if d := c.Step(p, api.Pick{Way: way}); !alike(d, want) {
				t.Errorf("behind %v: %v", n, d)
			}
		}
	}
}

// 9.2
func TestBranch(t *testing.T) {
	p := full([]api.Node{{Kind: api.Branch, Next: 1, Alt: 2}, {Kind: api.Return}, {Kind: api.Branch, Next: 2, Alt: 0}})
	for _, c := range []struct {
		ways []bool
		want int
	}{
		{nil, 0}, {[]bool{false}, 1}, {[]bool{true}, 2}, {[]bool{true, false}, 2}, {[]bool{true, true}, 0}, {[]bool{true, true, false}, 1},
	} {
		d := start(t, p)
		for _, way := range c.ways {
			d = d.Step(p, api.Pick{Way: way})
		}
		if !alike(d, Config{Threads: []Thread{{Stack: frames(0, c.want)}}}) {
			t.Errorf("behind %v: %v", c.ways, d)
		}
	}
}

// 9.2: the chapter's first example among them: who has a lock can't take it once more.
func TestLock(t *testing.T) {
	p := api.Program{Locks: 1, Funcs: [][]api.Node{{{Kind: api.Lock}}}}
	c := run(t, p, 0)
	n, ok := c.At(p, 0)
	if !ok || n != (api.Node{Kind: api.Lock}) || c.Enabled(p, 0) || !c.Lives(0) || c.Held(0) != 1 {
		t.Errorf("behind a lock: %v", c)
	}
	if !alike(c, c.Step(p, api.Pick{Way: true})) {
		t.Errorf("a lock is taken twice")
	}
	p = full(row(api.Node{Kind: api.Lock, Arg: 15}, api.Node{Kind: api.Lock}, api.Node{Kind: api.Unlock, Arg: 15}))
	for steps, held := range []uint32{0, 1 << 15, 1<<15 | 1, 1, 1} {
		c := run(t, p, make([]int, steps)...)
		if c.Held(0) != held || c.Lives(0) != (steps < 4) {
			t.Errorf("behind %d steps: %b of %v", steps, c.Held(0), c)
		}
	}
}

// 9.2: who else has a lock, living or not, bars it; who hasn't it doesn't free it.
func TestLocksOfOthers(t *testing.T) {
	p := full(
		row(api.Node{Kind: api.Spawn, Arg: 1}, api.Node{Kind: api.Unlock, Arg: 2}, api.Node{Kind: api.Lock, Arg: 2}),
		row(api.Node{Kind: api.Lock, Arg: 2}, api.Node{}))
	for _, c := range []struct {
		whos       []int
		may        bool
		held, mine uint32
	}{
		{[]int{0}, true, 0, 0},
		{[]int{0, 0}, true, 0, 0},
		{[]int{0, 0, 0}, true, 0, 4},
		{[]int{0, 1}, true, 4, 0},           // at its unlock
		{[]int{0, 1, 0}, false, 4, 0},       // which freed nothing
		{[]int{0, 1, 0, 0}, false, 4, 0},    // so it stands there
		{[]int{0, 1, 1, 1, 0}, false, 4, 0}, // who ended keeps it
		{[]int{0, 0, 1}, false, 4, 0},
		{[]int{0, 0, 0, 1}, true, 0, 4}, // now the other one is barred
	} {
		d := run(t, p, c.whos...)
		if d.Enabled(p, 0) != c.may || d.Held(0) != c.mine || d.Held(1) != c.held {
			t.Errorf("behind %v: %v", c.whos, d)
		}
	}
	if d := run(t, p, 0, 0, 0, 1); d.Enabled(p, 1) || d.Owners[2] != 1 {
		t.Errorf("two have one lock: %v", d)
	}
}

// 9.2: a join waits for who is in the slot, as long as that one lives, and for nobody else.
func TestJoin(t *testing.T) {
	p := full(
		row(api.Node{Kind: api.Spawn, Arg: 1, Alt: 7}, api.Node{Kind: api.Join, Arg: 6}, api.Node{Kind: api.Join, Arg: 7}, api.Node{Kind: api.Join, Arg: 7}),
		row(api.Node{Kind: api.Join, Arg: 7}))
	c := run(t, p, 0)
	if c.Threads[0].Slots != [8]int{7: 2} || c.Threads[1].Slots != [8]int{} || !c.Enabled(p, 0) || !c.Enabled(p, 1) {
		t.Errorf("behind a spawn: %v", c)
	}
	c = run(t, p, 0, 0)
	if c.Enabled(p, 0) || !alike(c, c.Step(p, api.Pick{})) {
		t.Errorf("at a join: %v", c)
	}
	if c = run(t, p, 0, 0, 1); c.Enabled(p, 0) { // it is at its return, and lives
		t.Errorf("behind a step of the other one: %v", c)
	}
	c = run(t, p, 0, 0, 1, 1)
	if !c.Enabled(p, 0) || c.Lives(1) {
		t.Errorf("behind the other one's end: %v", c)
	}
	c = run(t, p, 0, 0, 1, 1, 0)
	if !c.Enabled(p, 0) || c.Threads[0].Slots != [8]int{7: 2} { // a join empties no slot
		t.Errorf("behind a join: %v", c)
	}
}

// 9.2: who was in a slot is forgotten there.
func TestSpawnIntoAFullSlot(t *testing.T) {
	p := full(row(api.Node{Kind: api.Spawn, Arg: 1, Alt: 1}, api.Node{Kind: api.Spawn, Arg: 1, Alt: 1}, api.Node{Kind: api.Join, Arg: 1}), row())
	c := run(t, p, 0, 0)
	want := Config{Threads: []Thread{{Stack: frames(0, 2), Slots: [8]int{1: 3}}, {Stack: frames(1, 0)}, {Stack: frames(1, 0)}}}
	if !alike(c, want) {
		t.Errorf("behind two spawns: %v", c)
	}
	if c = run(t, p, 0, 0, 1); c.Enabled(p, 0) {
		t.Errorf("the one who was in the slot first ended: %v", c)
	}
	if c = run(t, p, 0, 0, 2); !c.Enabled(p, 0) {
		t.Errorf("the one who is in the slot ended: %v", c)
	}
}

// 9.2: there are eight threads at most, living or not; whoever begins the next one.
func TestSpawnOfMany(t *testing.T) {
	loop := []api.Node{{Kind: api.Spawn, Arg: 1, Next: 0, Alt: 3}}
	p := full(loop, row(api.Node{Kind: api.Spawn, Arg: 2, Alt: 4}), row())
	c := start(t, p)
	for n := 1; n < 8; n++ {
		if len(c.Threads) != n || !c.Enabled(p, 0) {
			t.Fatalf("%d threads: %v", n, c)
		}
		c = c.Step(p, api.Pick{})
		if c.Threads[0].Slots != [8]int{3: n + 1} || !alike(Config{Threads: c.Threads[n:]}, Config{Threads: []Thread{{Stack: frames(1, 0)}}}) {
			t.Fatalf("behind the spawn of %d: %v", n, c)
		}
	}
	for who := range 8 {
		if c.Enabled(p, who) || !alike(c, c.Step(p, api.Pick{Who: who})) {
			t.Errorf("thread %d of eight begins one more: %v", who, c)
		}
	}
	c = run(t, p, 0, 0, 0, 0, 0, 1, 5, 5) // the thread 5 ends behind a spawn
	for range 3 {
		c = c.Step(p, api.Pick{})
	}
	ends := c.Step(p, api.Pick{Who: 6}) // the one that was begun by 1 returns
	if len(c.Threads) != 8 || c.Enabled(p, 0) || ends.Lives(6) || ends.Enabled(p, 0) || len(ends.Step(p, api.Pick{}).Threads) != 8 {
		t.Errorf("eight threads: %v, then %v", c, ends)
	}
}

// 9.2: calls and returns: a caller goes on at Next.
func TestCalls(t *testing.T) {
	p := full(
		[]api.Node{{Kind: api.Skip, Next: 2}, {Kind: api.Return}, {Kind: api.Call, Arg: 2, Next: 1}},
		row(api.Node{Kind: api.Write}),
		row(api.Node{Kind: api.Read}, api.Node{Kind: api.Call, Arg: 1}))
	for steps, stack := range [][]Frame{
		frames(0, 0), frames(0, 2), frames(0, 1, 2, 0), frames(0, 1, 2, 1), frames(0, 1, 2, 2, 1, 0), frames(0, 1, 2, 2, 1, 1),
		frames(0, 1, 2, 2), frames(0, 1), nil, nil, nil,
	} {
		c := run(t, p, make([]int, steps)...)
		if !alike(c, Config{Threads: []Thread{{Stack: stack}}}) || c.Lives(0) != (len(stack) > 0) || c.Enabled(p, 0) != (len(stack) > 0) {
			t.Errorf("behind %d steps: %v", steps, c)
		}
	}
}

// 9.2: locks and slots are a thread's, not a function's; a thread may do the function 0, too.
func TestWhatAThreadKeeps(t *testing.T) {
	p := full(
		row(api.Node{Kind: api.Call, Arg: 1}, api.Node{Kind: api.Lock, Arg: 1}, api.Node{Kind: api.Join, Arg: 5}),
		row(api.Node{Kind: api.Lock, Arg: 0}, api.Node{Kind: api.Spawn, Arg: 0, Alt: 5}))
	c := run(t, p, 0, 0, 0, 0, 0, 0)
	want := Config{Threads: []Thread{{Stack: frames(0, 2), Slots: [8]int{5: 2}}, {Stack: frames(0, 0)}}, Owners: [16]int{1, 1}}
	if !alike(c, want) || c.Enabled(p, 0) || c.Held(0) != 3 || c.Held(1) != 0 {
		t.Errorf("behind a call: %v", c)
	}
	if c = c.Step(p, api.Pick{Who: 1}); !alike(Config{Threads: c.Threads[1:]}, Config{Threads: []Thread{{Stack: frames(0, 1, 1, 0)}}}) || c.Enabled(p, 1) {
		t.Errorf("behind a call of the other one: %v", c)
	}
}

// 9.2: of whatever configs.
func TestSame(t *testing.T) {
	base := func() Config {
		return Config{
			Threads: []Thread{
				{Stack: frames(0, 1, 2, 3), Slots: [8]int{1, 0, 0, 0, 0, 0, 0, 2}},
				{},
				{Stack: frames(-1, math.MaxInt), Slots: [8]int{3: -7}},
			},
			Owners: [16]int{0: 1, 15: 3, 7: math.MinInt},
		}
	}
	changes := []func(c *Config){
		func(c *Config) { c.Threads = nil },
		func(c *Config) { c.Threads = c.Threads[:2] },
		func(c *Config) { c.Threads = c.Threads[1:] },
		func(c *Config) { c.Threads = append(c.Threads, Thread{}) },
		func(c *Config) { c.Threads[0], c.Threads[2] = c.Threads[2], c.Threads[0] },
		func(c *Config) { c.Threads[0].Stack = nil },
		func(c *Config) { c.Threads[0].Stack = frames(0, 1) },
		func(c *Config) { c.Threads[0].Stack = frames(2, 3) },
		func(c *Config) { c.Threads[0].Stack = frames(2, 3, 0, 1) },
		func(c *Config) { c.Threads[0].Stack = frames(0, 1, 2, 3, 0, 0) },
		func(c *Config) { c.Threads[0].Stack[1].Func++ },
		func(c *Config) { c.Threads[0].Stack[1].Node-- },
		func(c *Config) { c.Threads[0].Stack[0].Func, c.Threads[0].Stack[0].Node = 1, 0 },
		func(c *Config) { c.Threads[1].Stack = frames(0, 0) },
		func(c *Config) { c.Threads[2].Stack[0].Node = math.MinInt },
		func(c *Config) { c.Threads[2].Stack[0].Func += 1 << 32 },
	}
	for slot := range 8 {
		changes = append(changes, func(c *Config) { c.Threads[0].Slots[slot] += 4 }, func(c *Config) { c.Threads[2].Slots[slot] += 1 << 40 })
	}
	for lock := range 16 {
		changes = append(changes, func(c *Config) { c.Owners[lock]++ }, func(c *Config) { c.Owners[lock] += 1 << 32 })
	}
	if !Same(base(), base()) || !Same(Config{}, Config{}) {
		t.Errorf("not alike: two that are")
	}
	for i, change := range changes {
		c := base()
		change(&c)
		if Same(base(), c) || Same(c, base()) || !Same(c, c) {
			t.Errorf("change %d isn't seen: %v", i, c)
		}
	}
}

// 9.2: a list without elements may be nil or not.
func TestSameOfNothing(t *testing.T) {
	a, b := Config{}, Config{Threads: []Thread{}}
	c, d := Config{Threads: []Thread{{}}}, Config{Threads: []Thread{{Stack: []Frame{}}}}
	if !Same(a, b) || !Same(b, a) || !Same(c, d) || !Same(d, c) || Same(a, c) || Same(d, b) {
		t.Errorf("nil and empty lists: %v %v %v %v", Same(a, b), Same(c, d), Same(a, c), Same(d, b))
	}
	p := api.Program{Funcs: [][]api.Node{row(), row()}}
	ended := run(t, p, 0)
	if !Same(ended, c) || !Same(d, ended) {
		t.Errorf("who ended isn't like who has no place: %v", ended)
	}
}

// 9.1, 9.2: each step of all programs of two functions, one of two nodes and one of one, of many kinds: all configs that they come to, up to some.
func TestEverySmallProgram(t *testing.T) {
	nodes := func(size, other int) []api.Node {
		l := []api.Node{{Kind: 9}, {Kind: 3}, {Kind: 3, Arg: 1}, {Kind: 4}, {Kind: 6}, {Kind: 5, Arg: 0}, {Kind: 5, Arg: 1}, {Kind: 7, Arg: other}, {Kind: 2}}
		if size == 1 {
			return l
		}
		var both []api.Node
		for _, n := range append(l, api.Node{Kind: 8, Alt: 1}) {
			both = append(both, n)
			if n.Kind == 8 {
				n.Alt = 0
			}
			if n.Kind != 9 {
				n.Next = 1
				both = append(both, n)
			}
		}
		return both
	}
	begun := 0
	for _, a := range nodes(2, 1) {
		for _, b := range nodes(2, 1) {
			for _, c := range nodes(1, 0) {
				p := api.Program{Globals: 1, Locks: 2, Slots: 1, Funcs: [][]api.Node{{a, b}, {c}}}
				if _, _, e := prog.Check(p); e == api.OK {
					begun++
					checkAll(t, p, 25)
				}
			}
		}
	}
	if begun < 2000 {
		t.Errorf("only %d programs", begun)
	}
}

// checkAll holds all steps from so many configs of a program, those that are come to first, against the world.
func checkAll(t *testing.T, p api.Program, most int) {
	t.Helper()
	type both struct {
		c Config
		w world
	}
	met := []both{{start(t, p), worldAtFirst()}}
	for i := 0; i < len(met); i++ {
		c, w := met[i].c, met[i].w
		checkAsked(t, p, c, w)
		for who := range len(c.Threads) + 1 {
			for _, way := range []bool{false, true} {
				d, v := checkStep(t, p, c, w, api.Pick{Who: who, Way: way})
				if len(met) < most && !slices.ContainsFunc(met, func(b both) bool { return alike(b.c, d) }) {
					met = append(met, both{d, v})
				}
			}
		}
	}
}

// 9.1, 9.2: many programs, along many picks; and all that bars a thread is met.
func TestManyPrograms(t *testing.T) {
	d := dice(92)
	barred := map[string]int{}
	for range 4000 {
		p := anything(&d, 6)
		if _, _, e := prog.Check(p); e != api.OK {
			t.Fatalf("%v may not be: %d", p, e)
		}
		c, w := start(t, p), worldAtFirst()
		for range 60 {
			checkAsked(t, p, c, w)
			x := api.Pick{Who: d.below(len(c.Threads)+2) - 1, Way: d.below(2) == 0}
			_, why := w.enabled(p, x.Who)
			barred[why]++
			c, w = checkStep(t, p, c, w, x)
		}
	}
	for _, why := range []string{"", "dead", "own lock", "lock of the dead", "lock", "join", "spawn"} {
		if barred[why] < 100 {
			t.Errorf("picks %q: only %d", why, barred[why])
		}
	}
}

// 9.3
func TestWhatHolds(t *testing.T) {
	d := dice(93)
	highest, most := 0, 0
	for range 2000 {
		p := anything(&d, 16)
		c := start(t, p)
		ended := map[int]bool{}
		for range 100 {
			held := uint32(0)
			for who := range c.Threads {
				mine := c.Held(who)
				if held&mine != 0 {
					t.Fatalf("two have one lock: %v", c)
				}
				held |= mine
				if ended[who] && c.Lives(who) {
					t.Fatalf("%d ended, and lives: %v", who, c)
				}
				ended[who] = !c.Lives(who)
				highest = max(highest, len(c.Threads[who].Stack))
				if len(c.Threads[who].Stack) > len(p.Funcs) {
					t.Fatalf("higher than %d functions: %v", len(p.Funcs), c)
				}
			}
			most = max(most, len(c.Threads))
			c = c.Step(p, api.Pick{Who: d.below(len(c.Threads)), Way: d.below(2) == 0})
		}
	}
	if highest < 4 || most != 8 {
		t.Errorf("never more than %d places and %d threads", highest, most)
	}
}

// 9.3: a stack as high as there may be functions.
func TestTheHighestStack(t *testing.T) {
	p := full()
	for f := range 15 {
		p.Funcs = append(p.Funcs, row(api.Node{Kind: api.Call, Arg: f + 1}))
	}
	p.Funcs = append(p.Funcs, row())
	for steps := range 40 {
		c := run(t, p, make([]int, steps)...)
		want := steps + 1
		if steps > 15 {
			want = max(0, 31-steps)
		}
		if len(c.Threads[0].Stack) != want || c.Lives(0) != (want > 0) {
			t.Errorf("behind %d steps: %v", steps, c)
		}
	}
}
