package must

import (
	"slices"
	"testing"

	"alibi/api"
	"alibi/prog"
)

// some is a program with sections in which nothing is wrong.
func some(t *testing.T) (api.Program, []api.Section) {
	t.Helper()
	p := parsed(t, "alibi 0 2 0, func, lock 0 1, call 1 2, return, func, unlock 0 1, lock 1 2, return")
	return p, []api.Section{tell(0, 2, 0, 1, 2), tell(1, 2, 1, 0, 2)}
}

// checkSome holds what is told of it against what should be.
func checkSome(t *testing.T) {
	t.Helper()
	p, l := some(t)
	check(t, p, l, fine, api.OK)
	if !Shaped(p, l) {
		t.Error("they are shaped")
	}
}

// sameSection tells whether two sections are alike.
func sameSection(a, b api.Section) bool {
	heads := [4]uint32{a.Entry, a.Exit, a.LiveEntry, a.LiveExit} == [4]uint32{b.Entry, b.Exit, b.LiveEntry, b.LiveExit}
	return heads && slices.Equal(a.Held, b.Held) && slices.Equal(a.Live, b.Live)
}

// What is handed in isn't changed, spare room included.
func TestNothingHandedInIsChanged(t *testing.T) {
	for _, wrong := range []func([]api.Section) []api.Section{
		func(l []api.Section) []api.Section { return l },
		func(l []api.Section) []api.Section { return l[:1] },
		func(l []api.Section) []api.Section { l[0].Entry = 1; return l },
		func(l []api.Section) []api.Section { l[1].Held[2] = 3; return l },
		func(l []api.Section) []api.Section { l[1].Exit = 1; return l },
	} {
		p, l := some(t)
		kept, _ := some(t)
		for f := range p.Funcs {
			p.Funcs[f] = append(slices.Clone(p.Funcs[f]), api.Node{Kind: 99})[:len(p.Funcs[f])]
			l[f].Held = append(slices.Clone(l[f].Held), 98)[:len(l[f].Held)]
			l[f].Live = append(slices.Clone(l[f].Live), 97)[:len(l[f].Live)]
		}
		p.Funcs = append(p.Funcs, []api.Node{{Kind: 96}})[:2]
		l = wrong(append(l, tell(95, 94, 93))[:2])
		before := slices.Clone(l[:cap(l)])
		for f := range before {
			before[f].Held, before[f].Live = slices.Clone(before[f].Held), slices.Clone(before[f].Live)
		}
		Shaped(p, l)
		Check(p, l)
		if !slices.EqualFunc(before, l[:cap(l)], sameSection) || !prog.Same(p, kept) {
			t.Errorf("%v became %v", before, l)
		}
		for f := range p.Funcs {
			if p.Funcs[f][:4][3].Kind != 99 || l[:2][f].Held[:4][3] != 98 || l[:2][f].Live[:4][3] != 97 {
				t.Errorf("room of the function %d was changed", f)
			}
		}
		if p.Funcs[:3][2][0].Kind != 96 {
			t.Error("room of the program was changed")
		}
	}
}

// What a call answers hangs on its arguments alone: what was handed in isn't kept, and no call leaves anything behind.
func TestNothingIsKept(t *testing.T) {
	p, l := some(t)
	check(t, p, l, fine, api.OK)
	l[1].Held[2] = 3
	check(t, p, l, api.Fault{Func: 1, Node: 1, What: api.BadHeld}, api.OK)
	p.Funcs[1][1] = api.Node{Kind: api.Skip, Next: 2}
	check(t, p, l, api.Fault{Func: 1, Node: 1, What: api.BadHeld}, api.OK)
	p.Funcs[0][1] = api.Node{Kind: api.Skip, Next: 2}
	check(t, p, l, api.Fault{Func: 0, Node: 1, What: api.BadHeld}, api.OK)
	checkSome(t)
	for _, programs := range refused() {
		for _, p := range programs {
			Shaped(p, make([]api.Section, 2))
			Check(p, make([]api.Section, 2))
			checkSome(t)
		}
	}
	d := dice(155)
	for range 50 {
		p := anyProgram(&d, 16)
		checkSections(t, p, tellAll(p, d.set))
		checkSome(t)
	}
}
