package race

import (
	"slices"
	"testing"

	"alibi/api"
	"alibi/prog"
	"alibi/sem"
)

// twin answers a config like another one, with room for one more in its lists, where something stands.
func twin(c sem.Config) sem.Config {
	var threads []sem.Thread
	for _, one := range c.Threads {
		stack := append(slices.Clone(one.Stack), sem.Frame{Func: 77, Node: 78})
		threads = append(threads, sem.Thread{Stack: stack[:len(one.Stack)], Slots: one.Slots})
	}
	threads = append(threads, sem.Thread{Slots: [8]int{9}})
	return sem.Config{Threads: threads[:len(c.Threads)], Owners: c.Owners}
}

// whole answers a config with that room, as part of what there is.
func whole(c sem.Config) sem.Config {
	var threads []sem.Thread
	for _, one := range c.Threads {
		threads = append(threads, sem.Thread{Stack: one.Stack[:len(one.Stack)+1], Slots: one.Slots})
	}
	return sem.Config{Threads: append(threads, c.Threads[:len(c.Threads)+1][len(c.Threads)]), Owners: c.Owners}
}

// No call changes a config or a program, spare room included.
func TestNothingHandedInIsChanged(t *testing.T) {
	p, c := crowd(t, writes(1), reads(1), writes(0), api.Node{Kind: ended}, reads(0))
	kept := p
	kept.Funcs = nil
	for f, l := range p.Funcs {
		kept.Funcs = append(kept.Funcs, slices.Clone(l))
		p.Funcs[f] = append(slices.Clone(l), api.Node{Kind: 99})[:len(l)]
	}
	had, want := twin(c), twin(c)
	Touches(p, had)
	First(p, had)
	for a := -1; a < 6; a++ {
		Pair(p, had, a, 1, 1)
	}
	if !sem.Same(whole(had), whole(want)) {
		t.Errorf("%v became %v", whole(want), whole(had))
	}
	for f, l := range p.Funcs {
		if l[:len(l)+1][len(l)] != (api.Node{Kind: 99}) {
			t.Errorf("room of the function %d was changed", f)
		}
	}
	if !prog.Same(p, kept) {
		t.Errorf("%v became %v", kept, p)
	}
}

// What is handed out is new memory, spare room included; so later answers are as they were.
func TestAnswersAreNewMemory(t *testing.T) {
	p, c := crowd(t, writes(1), reads(1), writes(0))
	want := []Touch{{0, 1, true}, {1, 1, false}, {2, 0, true}}
	l := Touches(p, c)
	for range 3 {
		spoiled := Touches(p, c)
		spoiled = spoiled[:cap(spoiled)]
		for i := range spoiled {
			spoiled[i] = Touch{Who: 5, Global: 5}
		}
		if a, b, g, ok := First(p, c); a != 0 || b != 1 || g != 1 || !ok || !Pair(p, c, 1, 0, 1) {
			t.Errorf("First = %d, %d, %d, %v", a, b, g, ok)
		}
	}
	if !slices.Equal(l, want) || !slices.Equal(Touches(p, c), want) {
		t.Errorf("Touches = %v, not %v", l, want)
	}
}

// No call panics, of whatever config and program.
func TestConfigsOfOtherPrograms(t *testing.T) {
	d := dice(102)
	odd := func() int {
		if d.below(3) > 0 {
			return d.below(4)
		}
		l := append(nowhere(), 0, 1, 7, 8, 15)
		return l[d.below(len(l))]
	}
	for range 20000 {
		p := api.Program{Globals: odd(), Locks: odd(), Slots: odd(), Funcs: make([][]api.Node, d.below(4))}
		for f := range p.Funcs {
			for range d.below(4) {
				p.Funcs[f] = append(p.Funcs[f], api.Node{Kind: d.below(4), Arg: odd(), Next: odd(), Alt: odd()})
			}
		}
		c := sem.Config{Threads: make([]sem.Thread, d.below(10))}
		for i := range c.Threads {
			for range d.below(4) {
				c.Threads[i].Stack = append(c.Threads[i].Stack, sem.Frame{Func: odd(), Node: odd()})
			}
		}
		Touches(p, c)
		Pair(p, c, odd(), odd(), odd())
		if a, b, g, ok := First(p, c); !ok && (a != 0 || b != 0 || g != 0) {
			t.Fatalf("First = %d, %d, %d, %v", a, b, g, ok)
		}
	}
}
