package seek

import (
	"slices"
	"testing"

	"alibi/api"
	"alibi/prog"
	"alibi/race"
	"alibi/sem"
	"alibi/text"
)

// dice are numbers that follow a rule, but look as if they didn't.
type dice uint32

// below answers the next number below n.
func (d *dice) below(n int) int {
	*d = *d*1664525 + 1013904223
	return int(*d>>8) % n
}

// parsed answers the program of a text.
func parsed(t *testing.T, s string) api.Program {
	t.Helper()
	p, line, e := text.Parse(s)
	if e != api.OK {
		t.Fatalf("%q, line %d: %d", s, line, e)
	}
	return p
}

// picks answers picks, one for each number: of a thread, with Way from 8 on.
func picks(l ...int) []api.Pick {
	var x []api.Pick
	for _, n := range l {
		x = append(x, api.Pick{Who: n % 8, Way: n >= 8})
	}
	return x
}

// reached is a config that a program comes to, and by which picks.
type reached struct {
	config sem.Config
	by     []api.Pick
}

// races tells whether any two threads race for any global.
func races(p api.Program, c sem.Config) bool {
	for a := range c.Threads {
		for b := range a {
			for g := range p.Globals {
				if race.Pair(p, c, a, b, g) {
					return true
				}
			}
		}
	}
	return false
}

// world is all that a program comes to, and which of it comes to a race first (-1: none).
type world struct {
	all  []reached
	race int
}

// everything answers all unlike configs that a program comes to, in the order of a search that never ends early: by how
// many picks, then by where they come from, then by thread and way; if there are many more than enough, not all.
func everything(t *testing.T, p api.Program, enough int) world {
	t.Helper()
	first, e := sem.Start(p)
	if e != api.OK {
		t.Fatalf("%v may not be: %d", p, e)
	}
	all := []reached{{config: first}}
	for level := all; len(level) > 0 && len(all) <= enough; {
		old := len(all)
		for _, r := range level {
			for _, x := range turns(p, r.config) {
				c := r.config.Step(p, x)
				if !slices.ContainsFunc(all, func(o reached) bool { return sem.Same(o.config, c) }) {
					all = append(all, reached{config: c, by: append(slices.Clone(r.by), x)})
				}
			}
		}
		level = all[old:]
	}
	return world{all: all, race: slices.IndexFunc(all, func(r reached) bool { return races(p, r.config) })}
}

// turns answers all picks of threads that may do a step, both ways of a branch.
func turns(p api.Program, c sem.Config) []api.Pick {
	var l []api.Pick
	for n := range 16 {
		x := api.Pick{Who: n / 2, Way: n%2 == 1}
		if at, _ := c.At(p, x.Who); c.Enabled(p, x.Who) && (!x.Way || at.Kind == api.Branch) {
			l = append(l, x)
		}
	}
	return l
}

// checkFind holds what is found among so many configs against all of them; it answers what the search came to.
func checkFind(t *testing.T, p api.Program, w world, most int) int {
	t.Helper()
	var path []api.Pick
	want := None
	switch {
	case w.race >= 0 && w.race < most:
		want, path = Found, w.all[w.race].by
	case len(w.all) > most:
		want = Unknown
	}
	if l, is, e := Find(p, most); !slices.Equal(l, path) || is != want || e != api.OK {
		t.Fatalf("Find(%v, %d) = %v, %d, %d, not %v, %d", p, most, l, is, e, path, want)
	}
	return want
}

// anyNode answers a node that may be there, of as many nodes, as dice fall.
func anyNode(d *dice, p api.Program, size int) api.Node {
	kinds := []int{0, 1, 1, 2, 3, 3, 4, 5, 5, 6, 7, 7, 8, 8, 9}
	for {
		n := api.Node{Kind: kinds[d.below(len(kinds))], Arg: d.below(3), Next: d.below(size), Alt: d.below(4)}
		if prog.May(p, n, size) {
			return n
		}
	}
}

// anyProgram answers a program that may be, and begins with a spawn, as dice fall.
func anyProgram(d *dice) api.Program {
	for {
		p := api.Program{Globals: 1 + d.below(3), Locks: 1 + d.below(2), Slots: 1 + d.below(2), Funcs: make([][]api.Node, 2+d.below(3))}
		p.Funcs[0] = []api.Node{{Kind: api.Spawn, Arg: 1, Next: 1}}
		for f := range p.Funcs {
			for size := 2 + d.below(4); len(p.Funcs[f]) < size; {
				p.Funcs[f] = append(p.Funcs[f], anyNode(d, p, size))
			}
		}
		if _, _, e := prog.Check(p); e == api.OK {
			return p
		}
	}
}

// anyPicks answers picks, most of them of threads that there may be, as dice fall.
func anyPicks(d *dice, n int) []api.Pick {
	l := make([]api.Pick, n)
	for i := range l {
		l[i] = api.Pick{Who: d.below(5), Way: d.below(2) == 0}
		if d.below(8) == 0 {
			l[i].Who = d.below(8)
		}
	}
	return l
}
