package script

import (
	"math"
	"testing"

	"alibi/api"
	"alibi/prog"
	"alibi/race"
	"alibi/sem"
	"alibi/text"
)

// dice are numbers that follow a rule, but look as if they didn't.
type dice uint32

// below answers the next number below n.
func (d *dice) below(n int) int {
	*d = *d*1664525 + 1013904223
	return int(*d>>8) % n
}

// strangers are numbers of no thread that there may be.
func strangers() []int {
	return []int{
		math.MinInt, math.MinInt + 1, math.MinInt32, -1 << 32, -256, -16, -9, -8, -7, -2, -1,
		8, 9, 15, 16, 17, 24, 255, 256, 257, 1 << 31, 1 << 32, 1<<32 + 1, math.MaxInt - 8, math.MaxInt,
	}
}

// picks answers picks without Way, one for each number.
func picks(whos ...int) []api.Pick {
	var l []api.Pick
	for _, who := range whos {
		l = append(l, api.Pick{Who: who})
	}
	return l
}

// parsed answers the program of a text.
func parsed(t *testing.T, s string) api.Program {
	t.Helper()
	p, line, e := text.Parse(s)
	if e != api.OK {
		t.Fatalf("%q, line %d: %d", s, line, e)
	}
	return p
}

// two is a program of two threads; both write the global 0, the first one behind three nodes, the other one at once.
func two(t *testing.T) api.Program {
	t.Helper()
	return parsed(t, "alibi 1 0 1\nfunc\nspawn 1 0 1\nskip 2\nbranch 3 4\nwrite 0 4\nreturn\nfunc\nwrite 0 1\nreturn\n")
}

// refused are programs that may not be, each with chapter 5's error.
func refused() map[api.Errno][]api.Program {
	ret := []api.Node{{Kind: api.Return}}
	return map[api.Errno][]api.Program{
		api.ErrArg:   {{}, {Locks: -1, Funcs: [][]api.Node{ret}}, {Funcs: [][]api.Node{ret, nil}}},
		api.ErrLong:  {{Globals: 17, Funcs: [][]api.Node{ret}}, {Funcs: make([][]api.Node, 17)}, {Funcs: [][]api.Node{make([]api.Node, 65)}}},
		api.ErrForm:  {{Funcs: [][]api.Node{{{Kind: 10}}}}, {Funcs: [][]api.Node{ret, {{Next: 1}}}}, {Funcs: [][]api.Node{{{Kind: api.Lock}}}}},
		api.ErrRound: {{Funcs: [][]api.Node{{{Kind: api.Call}}}}, {Funcs: [][]api.Node{ret, {{Kind: api.Call, Arg: 1}}}}},
	}
}

// wayOf answers the configs that picks come to, from the one at first on, step by step.
func wayOf(t *testing.T, p api.Program, l []api.Pick) []sem.Config {
	t.Helper()
	c, e := sem.Start(p)
	if e != api.OK {
		t.Fatalf("%v may not be: %d", p, e)
	}
	configs := []sem.Config{c}
	for _, x := range l {
		c = c.Step(p, x)
		configs = append(configs, c)
	}
	return configs
}

// races tells whether any two threads race for any global.
func races(p api.Program, c sem.Config) bool {
	for a := range 8 {
		for b := range a {
			for g := range 16 {
				if race.Pair(p, c, a, b, g) {
					return true
				}
			}
		}
	}
	return false
}

// checkWay holds all that is told of picks against the configs that they come to; it answers behind how many two race,
// -1, if they never do.
func checkWay(t *testing.T, p api.Program, l []api.Pick) int {
	t.Helper()
	want := wayOf(t, p, l)
	told, met := 0, -1
	for n, c := range Along(p, l) {
		if n != told || n >= len(want) || !sem.Same(c, want[n]) {
			t.Fatalf("behind %d of %v: %d, %v", told, l, n, c)
		}
		if told++; met < 0 && races(p, want[n]) {
			met = n
		}
	}
	if told != len(want) {
		t.Fatalf("%d configs of %v", told, l)
	}
	if c, e := Run(p, l); e != api.OK || !sem.Same(c, want[len(l)]) {
		t.Fatalf("Run(%v, %v) = %v, %d, not %v", p, l, c, e, want[len(l)])
	}
	if n, ok := Meets(p, l); n != max(met, 0) || ok != (met >= 0) {
		t.Fatalf("Meets(%v, %v) = %d, %v, not %d", p, l, n, ok, met)
	}
	return met
}

// anyNode answers a node that may be there, of as many nodes, as dice fall.
func anyNode(d *dice, p api.Program, size int) api.Node {
	kinds := []int{0, 1, 1, 2, 2, 2, 3, 4, 5, 5, 5, 5, 6, 7, 8, 9}
	for {
		n := api.Node{Kind: kinds[d.below(len(kinds))], Arg: d.below(3), Next: d.below(size), Alt: d.below(3)}
		if prog.May(p, n, size) {
			return n
		}
	}
}

// anyProgram answers a program that may be, and begins with a spawn, as dice fall.
func anyProgram(d *dice) api.Program {
	for {
		p := api.Program{Globals: 1, Locks: 2, Slots: 2, Funcs: make([][]api.Node, 2+d.below(3))}
		p.Funcs[0] = []api.Node{{Kind: api.Spawn, Arg: 1, Next: 1}}
		for f := range p.Funcs {
			for size := 2 + d.below(4); len(p.Funcs[f]) < size; {
				p.Funcs[f] = append(p.Funcs[f], anyNode(d, p, size))
			}
		}
		if _, _, e := prog.Check(p); e == api.OK {
			return p
		}
	}
}

// anyPicks answers picks of threads, and of some numbers of none, as dice fall.
func anyPicks(d *dice, n int) []api.Pick {
	l := make([]api.Pick, n)
	for i := range l {
		l[i] = api.Pick{Who: d.below(3), Way: d.below(2) == 0}
		if d.below(8) == 0 {
			l[i].Who = d.below(12) - 2
		}
	}
	return l
}
