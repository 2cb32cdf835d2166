package may

import (
	"slices"
	"testing"

	"alibi/api"
	"alibi/prog"
)

// some is a program with sections in which nothing is wrong.
func some(t *testing.T) (api.Program, []api.Section) {
	t.Helper()
	p := parsed(t, "alibi 0 0 2, func, spawn 1 0 1, call 1 2, return, func, skip 1, join 0 2, return")
	return p, []api.Section{tell(0, 4, 0, 1, 4), tell(5, 4, 5, 5, 4)}
}

// checkSome holds what is told of it against what should be.
func checkSome(t *testing.T) {
	t.Helper()
	p, l := some(t)
	check(t, p, l, fine, api.OK)
	if Lost(p) != 2 || !Solo(l[0], 0) || Solo(l[0], 1) {
		t.Error("of two slots lost is 2, and only at its first node the first function is alone")
	}
	if m := Behind(p.Funcs[0][0], 0, 0, 2, false); m != 1 {
		t.Errorf("behind its first node %b may live", m)
	}
}

// sameSection tells whether two sections are alike.
func sameSection(a, b api.Section) bool {
	heads := [4]uint32{a.Entry, a.Exit, a.LiveEntry, a.LiveExit} == [4]uint32{b.Entry, b.Exit, b.LiveEntry, b.LiveExit}
	return heads && slices.Equal(a.Held, b.Held) && slices.Equal(a.Live, b.Live)
}

// What is handed in isn't changed, spare room included.
func TestNothingHandedInIsChanged(t *testing.T) {
	for _, wrong := range []func([]api.Section) []api.Section{
		func(l []api.Section) []api.Section { return l },
		func(l []api.Section) []api.Section { return l[:1] },
		func(l []api.Section) []api.Section { l[0].LiveEntry = 1; return l },
		func(l []api.Section) []api.Section { l[1].LiveEntry = 1; return l },
		func(l []api.Section) []api.Section { l[1].Live[2] = 0; return l },
		func(l []api.Section) []api.Section { l[1].LiveExit = 0; return l },
	} {
		p, l := some(t)
		kept, _ := some(t)
		for f := range p.Funcs {
			p.Funcs[f] = append(slices.Clone(p.Funcs[f]), api.Node{Kind: 99})[:len(p.Funcs[f])]
			l[f].Held = append(slices.Clone(l[f].Held), 98)[:len(l[f].Held)]
			l[f].Live = append(slices.Clone(l[f].Live), 97)[:len(l[f].Live)]
		}
		p.Funcs = append(p.Funcs, []api.Node{{Kind: 96}})[:2]
		l = wrong(append(l, tell(95, 94, 93))[:2])
		before := slices.Clone(l[:cap(l)])
		for f := range before {
			before[f].Held, before[f].Live = slices.Clone(before[f].Held), slices.Clone(before[f].Live)
		}
		Lost(p)
		Check(p, l)
		for i := range 5 {
			Solo(l[0], i-1)
		}
		if !slices.EqualFunc(before, l[:cap(l)], sameSection) || !prog.Same(p, kept) {
			t.Errorf("%v became %v", before, l)
		}
		for f, nodes := range p.Funcs {
			size := len(nodes)
			if nodes[:size+1][size].Kind != 99 || l[:2][f].Held[:size+1][size] != 98 || l[:2][f].Live[:size+1][size] != 97 {
				t.Errorf("room of the function %d was changed", f)
			}
		}
		if p.Funcs[:3][2][0].Kind != 96 {
			t.Error("room of the program was changed")
		}
	}
}

// What a call answers hangs on its arguments alone: what was handed in isn't kept, and no call leaves anything behind.
func TestNothingIsKept(t *testing.T) {
	p, l := some(t)
	check(t, p, l, fine, api.OK)
	l[1].Live[2] = 0
	check(t, p, l, api.Fault{Func: 1, Node: 1, What: api.BadLive}, api.OK)
	p.Funcs[1][1] = api.Node{Kind: api.Return}
	check(t, p, l, api.Fault{Func: 1, Node: 1, What: api.BadLive}, api.OK)
	p.Funcs[0][0] = api.Node{Kind: api.Join, Next: 1}
	l[1].LiveExit = 5
	check(t, p, l, api.Fault{Func: 0, Node: 1, What: api.BadLive}, api.OK)
	checkSome(t)
	for _, programs := range refused() {
		for _, p := range programs {
			Check(p, make([]api.Section, 2))
			checkSome(t)
		}
	}
	d := dice(165)
	for range 50 {
		p := anyProgram(&d, 16)
		checkSections(t, p, tellAll(p, d.set))
		checkSome(t)
	}
}
