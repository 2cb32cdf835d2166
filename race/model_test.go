package race

import (
	"slices"
	"testing"

	"alibi/api"
	"alibi/prog"
	"alibi/sem"
)

// dice are numbers that follow a rule, but look as if they didn't.
type dice uint32

// below answers the next number below n.
func (d *dice) below(n int) int {
	*d = *d*1664525 + 1013904223
	return int(*d>>8) % n
}

// ended stands for no node: who should stand there has ended.
const ended = -1

// full is a program with all that there may be of everything, of functions.
func full(funcs ...[]api.Node) api.Program {
	return api.Program{Globals: 16, Locks: 16, Slots: 8, Funcs: funcs}
}

// crowd answers a program, and a config that it comes to, where each thread stands at the node of its number, or has
// ended. A call there is one of a function that writes the global 0.
func crowd(t *testing.T, nodes ...api.Node) (api.Program, sem.Config) {
	t.Helper()
	var funcs [][]api.Node
	var spawns []api.Node
	var ends []int
	for who, n := range nodes {
		switch n.Kind {
		case ended:
			n.Kind = api.Return
			ends = append(ends, who)
		case api.Call:
			n.Arg = len(nodes)
		}
		funcs = append(funcs, []api.Node{n})
		if who > 0 {
			spawns = append(spawns, api.Node{Kind: api.Spawn, Arg: who, Next: who})
		}
	}
	funcs[0] = append(spawns, funcs[0]...)
	p := full(append(funcs, []api.Node{{Kind: api.Write}})...)
	return p, run(t, p, append(make([]int, len(spawns)), ends...)...)
}

// run answers the config behind picks without Way, one for each number, of what a program begins with.
func run(t *testing.T, p api.Program, whos ...int) sem.Config {
	t.Helper()
	c, e := sem.Start(p)
	if _, _, f := prog.Check(p); f != api.OK || e != api.OK {
		t.Fatalf("%v may not be: %d, %d", p, f, e)
	}
	for _, who := range whos {
		c = c.Step(p, api.Pick{Who: who})
	}
	return c
}

// post is where a thread stands: a global, and how many write it there.
type post struct{ global, writers int }

// posts answers where threads stand at accesses, by their stacks alone.
func posts(p api.Program, c sem.Config) map[int]post {
	m := map[int]post{}
	for who, one := range c.Threads {
		if len(one.Stack) == 0 {
			continue
		}
		at := one.Stack[len(one.Stack)-1]
		switch n := p.Funcs[at.Func][at.Node]; n.Kind {
		case 1:
			m[who] = post{n.Arg, 0}
		case 2:
			m[who] = post{n.Arg, 1}
		}
	}
	return m
}

// racing tells whether two threads race for a global, by their posts.
func racing(m map[int]post, a, b, g int) bool {
	one, isOne := m[a]
	other, isOther := m[b]
	return isOne && isOther && a != b && one.global == g && other.global == g && one.writers+other.writers > 0
}

// triple is two threads, and the global for which they race.
type triple struct{ a, b, g int }

// racers answers all two that race, by the lesser one, then by the other one.
func racers(m map[int]post) []triple {
	var l []triple
	for a := range 8 {
		for b := a + 1; b < 8; b++ {
			for g := range 16 {
				if racing(m, a, b, g) {
					l = append(l, triple{a, b, g})
				}
			}
		}
	}
	return l
}

// checkAll holds all that is told of a config against its threads' posts, and answers all two that race.
func checkAll(t *testing.T, p api.Program, c sem.Config) []triple {
	t.Helper()
	m := posts(p, c)
	var want []Touch
	for who := range 8 {
		if at, ok := m[who]; ok {
			want = append(want, Touch{Who: who, Global: at.global, Write: at.writers == 1})
		}
	}
	if got := Touches(p, c); !slices.Equal(got, want) {
		t.Fatalf("Touches = %v, not %v: %v of %v", got, want, c, p)
	}
	for a := -2; a < 10; a++ {
		for b := -2; b < 10; b++ {
			for g := -1; g < 5; g++ {
				if got, want := Pair(p, c, a, b, g), racing(m, a, b, g); got != want {
					t.Fatalf("Pair(%d, %d, %d) = %v: %v of %v", a, b, g, got, c, p)
				}
			}
		}
	}
	all := racers(m)
	first := triple{}
	if len(all) > 0 {
		first = all[0]
	}
	if a, b, g, ok := First(p, c); (triple{a, b, g}) != first || ok != (len(all) > 0) {
		t.Fatalf("First = %d, %d, %d, %v, not %v: %v of %v", a, b, g, ok, first, c, p)
	}
	return all
}

// anything answers a program that may be, of as many functions at most, that does whatever dice say.
func anything(d *dice, most int) api.Program {
	p := api.Program{Globals: 1 + d.below(4), Locks: 1 + d.below(3), Slots: 1 + d.below(3), Funcs: make([][]api.Node, 1+d.below(most))}
	kinds := []int{0, 1, 1, 1, 2, 2, 2, 3, 4, 5, 5, 5, 6, 7, 7, 8, 9}
	for f := range p.Funcs {
		nodes := make([]api.Node, 1+d.below(8))
		for i := range nodes {
			kind := kinds[d.below(len(kinds))]
			if kind == 7 && f+1 == len(p.Funcs) { // it could only call what calls it
				kind = 5
			}
			n := api.Node{Kind: kind, Next: d.below(len(nodes))}
			switch kind {
			case 1, 2:
				n.Arg = d.below(p.Globals)
			case 3, 4:
				n.Arg = d.below(p.Locks)
			case 5:
				n.Arg, n.Alt = d.below(len(p.Funcs)), d.below(p.Slots)
			case 6:
				n.Arg = d.below(p.Slots)
			case 7:
				n.Arg = f + 1 + d.below(len(p.Funcs)-f-1)
			case 8:
				n.Alt = d.below(len(nodes))
			case 9:
				n.Next = 0
			}
			nodes[i] = n
		}
		p.Funcs[f] = nodes
	}
	return p
}
