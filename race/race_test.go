package race

import (
	"math"
	"slices"
	"testing"

	"alibi/api"
	"alibi/sem"
)

// reads is a node that reads a global.
func reads(g int) api.Node { return api.Node{Kind: api.Read, Arg: g} }

// writes is a node that writes a global.
func writes(g int) api.Node { return api.Node{Kind: api.Write, Arg: g} }

// others are nodes that are no access, one of each kind; the last stands for a thread that has ended.
func others() []api.Node {
	return []api.Node{
		{Kind: api.Skip}, {Kind: api.Lock, Arg: 1}, {Kind: api.Unlock, Arg: 1}, {Kind: api.Spawn}, {Kind: api.Join, Arg: 7},
		{Kind: api.Call}, {Kind: api.Branch}, {Kind: api.Return}, {Kind: ended},
	}
}

// nowhere are numbers of no thread, and of no global.
func nowhere() []int {
	return []int{
		math.MinInt, math.MinInt + 1, math.MinInt32, -1 << 32, -256, -16, -8, -2, -1,
		16, 17, 255, 256, 1 << 31, 1 << 32, 1<<32 + 1, math.MaxInt - 1, math.MaxInt,
	}
}

// 10.1
func TestTouches(t *testing.T) {
	for _, c := range []struct {
		nodes []api.Node
		want  []Touch
	}{
		{[]api.Node{reads(0)}, []Touch{{0, 0, false}}},
		{[]api.Node{writes(15)}, []Touch{{0, 15, true}}},
		{[]api.Node{{Kind: api.Skip}}, nil},
		{[]api.Node{{Kind: api.Skip}, writes(3)}, []Touch{{1, 3, true}}},
		{[]api.Node{writes(2), reads(2), reads(2), writes(1)}, []Touch{{0, 2, true}, {1, 2, false}, {2, 2, false}, {3, 1, true}}},
		{[]api.Node{{Kind: ended}, reads(7), {Kind: ended}, writes(0), {Kind: api.Return}, reads(0)}, []Touch{{1, 7, false}, {3, 0, true}, {5, 0, false}}},
		{[]api.Node{reads(7), reads(6), reads(5), reads(4), writes(3), writes(2), writes(1), writes(0)}, []Touch{
			{0, 7, false}, {1, 6, false}, {2, 5, false}, {3, 4, false}, {4, 3, true}, {5, 2, true}, {6, 1, true}, {7, 0, true},
		}},
		{slices.Repeat([]api.Node{{Kind: ended}}, 8), nil},
	} {
		p, config := crowd(t, c.nodes...)
		if got := Touches(p, config); !slices.Equal(got, c.want) {
			t.Errorf("of %v: %v, not %v", c.nodes, got, c.want)
		}
	}
}

// 10.1, 10.2: who lives at no access, and who has ended, races with nobody, whatever Arg is.
func TestWhatIsNoAccess(t *testing.T) {
	for _, n := range others() {
		for who := range 3 {
			nodes := []api.Node{writes(0), writes(1), writes(7)}
			nodes[who] = n
			p, c := crowd(t, nodes...)
			if l := Touches(p, c); len(l) != 2 || l[0].Who == who || l[1].Who == who {
				t.Errorf("at %v: %v", n, l)
			}
			if all := checkAll(t, p, c); len(all) != 0 {
				t.Errorf("at %v: %v race", n, all)
			}
		}
	}
}

// 10.1: of two nodes of all kinds the threads race for one global alone, whichever is told first.
func TestPair(t *testing.T) {
	for _, c := range []struct {
		a, b api.Node
		g    int // -1: they don't race
	}{
		{writes(0), writes(0), 0}, {writes(3), reads(3), 3}, {reads(15), writes(15), 15}, {writes(15), writes(15), 15},
		{reads(3), reads(3), -1}, {reads(0), reads(0), -1}, {writes(0), writes(1), -1}, {reads(2), writes(3), -1}, {writes(14), reads(15), -1},
	} {
		p, config := crowd(t, c.a, c.b)
		for g := range 16 {
			for a := range 2 {
				if got := Pair(p, config, a, 1-a, g); got != (g == c.g) {
					t.Errorf("at %v and %v: Pair(%d, %d, %d) = %v", c.a, c.b, a, 1-a, g, got)
				}
				if Pair(p, config, a, a, g) {
					t.Errorf("at %v and %v: %d races with itself for %d", c.a, c.b, a, g)
				}
			}
		}
	}
}

// 10.1: there is no such thread, or no such global.
func TestPairOfWhatThereIsnt(t *testing.T) {
	p, c := crowd(t, writes(0), writes(0), reads(0))
	for _, n := range append(nowhere(), 3, 7, 8, 9) {
		for g := range 16 {
			for who := range 3 {
				if Pair(p, c, n, who, g) || Pair(p, c, who, n, g) {
					t.Errorf("%d races with %d for %d", who, n, g)
				}
			}
			if Pair(p, c, n, n, g) {
				t.Errorf("%d races with itself for %d", n, g)
			}
		}
		if Pair(p, c, 0, 1, n) || Pair(p, c, 2, 0, n) || Pair(p, c, n, n, n) {
			t.Errorf("two race for %d", n)
		}
	}
	if !Pair(p, c, 0, 1, 0) || !Pair(p, c, 2, 1, 0) {
		t.Errorf("who races doesn't")
	}
}

// 10.2: the least lesser one, then the least other one; the chapter's example is the first one.
func TestFirst(t *testing.T) {
	skip := api.Node{Kind: api.Skip}
	for _, c := range []struct {
		nodes   []api.Node
		a, b, g int
		ok      bool
	}{
		{[]api.Node{writes(0), writes(0)}, 0, 1, 0, true},
		{[]api.Node{writes(5), reads(5)}, 0, 1, 5, true},
		{[]api.Node{reads(15), writes(15)}, 0, 1, 15, true},
		{[]api.Node{writes(0)}, 0, 0, 0, false},
		{[]api.Node{writes(0), writes(1), writes(2), writes(3), reads(4), reads(4), reads(4), {Kind: ended}}, 0, 0, 0, false},
		{slices.Repeat([]api.Node{reads(2)}, 8), 0, 0, 0, false},
		{slices.Repeat([]api.Node{writes(2)}, 8), 0, 1, 2, true},
		{[]api.Node{reads(1), writes(0), reads(0), writes(1)}, 0, 3, 1, true}, // not 1 and 2, whose other one is less
		{[]api.Node{reads(0), reads(0), writes(0)}, 0, 2, 0, true},            // not 1 and 2
		{[]api.Node{writes(0), reads(0), writes(0)}, 0, 1, 0, true},
		{[]api.Node{writes(9), writes(9), reads(0), writes(0)}, 0, 1, 9, true}, // the least global counts for nothing
		{[]api.Node{reads(0), writes(9), writes(9), writes(0)}, 0, 3, 0, true},
		{[]api.Node{skip, reads(3), writes(2), {Kind: ended}, reads(2), writes(2)}, 2, 4, 2, true},
		{[]api.Node{{Kind: ended}, reads(3), reads(3), skip, skip, skip, reads(1), writes(1)}, 6, 7, 1, true},
		{[]api.Node{reads(3), skip, skip, skip, skip, skip, skip, writes(3)}, 0, 7, 3, true},
	} {
		p, config := crowd(t, c.nodes...)
		if a, b, g, ok := First(p, config); a != c.a || b != c.b || g != c.g || ok != c.ok {
			t.Errorf("of %v: %d, %d, %d, %v", c.nodes, a, b, g, ok)
		}
	}
}

// 10.1, 10.2: all crowds of three.
func TestEveryCrowdOfThree(t *testing.T) {
	nodes := append(others(), reads(0), reads(1), writes(0), writes(1))
	for _, a := range nodes {
		for _, b := range nodes {
			for _, c := range nodes {
				p, config := crowd(t, a, b, c)
				checkAll(t, p, config)
			}
		}
	}
}

// 10.1: a thread is where its last place is, not where it was called.
func TestBehindACall(t *testing.T) {
	p := full(
		[]api.Node{{Kind: api.Spawn, Arg: 1, Next: 1}, {Kind: api.Call, Arg: 2, Next: 2}, {Kind: api.Read, Arg: 4, Next: 2}},
		[]api.Node{{Kind: api.Write, Arg: 4}},
		[]api.Node{{Kind: api.Write, Arg: 5, Next: 1}, {Kind: api.Return}})
	for steps, want := range [][]Touch{
		nil, {{1, 4, true}}, {{0, 5, true}, {1, 4, true}}, {{1, 4, true}}, {{0, 4, false}, {1, 4, true}},
	} {
		c := run(t, p, make([]int, steps)...)
		if got := Touches(p, c); !slices.Equal(got, want) {
			t.Errorf("behind %d steps: %v, not %v", steps, got, want)
		}
		if all := checkAll(t, p, c); (len(all) > 0) != (steps == 4) {
			t.Errorf("behind %d steps: %v race", steps, all)
		}
	}
}

// 10.1, 10.2: of what was refused, and of what never began.
func TestOfNothing(t *testing.T) {
	p := full([]api.Node{{Kind: api.Write}})
	refused, _ := sem.Start(api.Program{})
	for _, c := range []sem.Config{{}, refused, {Threads: []sem.Thread{}}, {Threads: make([]sem.Thread, 8)}} {
		if l := Touches(p, c); len(l) != 0 {
			t.Errorf("Touches = %v of %v", l, c)
		}
		if a, b, g, ok := First(p, c); a != 0 || b != 0 || g != 0 || ok {
			t.Errorf("First = %d, %d, %d, %v of %v", a, b, g, ok, c)
		}
		if Pair(p, c, 0, 1, 0) || Pair(p, c, 0, 0, 0) {
			t.Errorf("two race in %v", c)
		}
	}
}

// 10.1 to 10.3: many programs, along many picks.
func TestManyPrograms(t *testing.T) {
	d := dice(101)
	raced, silent := 0, 0
	for range 600 {
		p := anything(&d, 6)
		c := run(t, p)
		for range 40 {
			all := checkAll(t, p, c)
			for _, x := range all {
				checkWhoRaces(t, p, c, x)
			}
			if len(all) > 0 {
				raced++
			} else if len(Touches(p, c)) > 1 {
				silent++
			}
			c = c.Step(p, api.Pick{Who: d.below(len(c.Threads)), Way: d.below(2) == 0})
		}
	}
	if raced < 1000 || silent < 1000 {
		t.Errorf("only %d configs with a race, %d without one", raced, silent)
	}
}

// checkWhoRaces holds two that race against what chapter 10 says holds of them.
func checkWhoRaces(t *testing.T, p api.Program, c sem.Config, x triple) {
	t.Helper()
	for _, who := range []int{x.a, x.b} {
		at := func(one Touch) bool { return one.Who == who && one.Global == x.g }
		if !c.Enabled(p, who) || !slices.ContainsFunc(Touches(p, c), at) {
			t.Fatalf("%d races for %d, but may do no step, or stands at no access: %v of %v", who, x.g, c, p)
		}
	}
	if c.Held(x.a)&c.Held(x.b) != 0 {
		t.Fatalf("%v race, and have one lock: %v of %v", x, c, p)
	}
}

// 10.3: between a lock and its unlock nobody races with who does so, too, whatever is picked; without one they do.
func TestWhoHasALock(t *testing.T) {
	funcs := func(kind, arg int) api.Program {
		work := func(l ...api.Node) []api.Node {
			return append(l,
				api.Node{Kind: kind, Arg: arg, Next: len(l) + 1}, api.Node{Kind: api.Write, Next: len(l) + 2},
				api.Node{Kind: api.Unlock, Next: len(l) + 3}, api.Node{Kind: api.Branch, Next: len(l), Alt: len(l)})
		}
		return full(work(api.Node{Kind: api.Spawn, Arg: 1, Next: 1}), work())
	}
	for _, c := range []struct {
		p    api.Program
		want bool
	}{
		{funcs(api.Lock, 0), false}, {funcs(api.Skip, 0), true},
	} {
		met := []sem.Config{run(t, c.p)}
		raced := false
		for i := 0; i < len(met); i++ {
			raced = raced || len(checkAll(t, c.p, met[i])) > 0
			for who := range 2 {
				d := met[i].Step(c.p, api.Pick{Who: who})
				if !slices.ContainsFunc(met, func(e sem.Config) bool { return sem.Same(d, e) }) {
					met = append(met, d)
				}
			}
		}
		if raced != c.want || len(met) < 10 {
			t.Errorf("%v: %v among %d configs", c.p, raced, len(met))
		}
	}
}
