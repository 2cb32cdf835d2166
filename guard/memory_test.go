package guard

import (
	"slices"
	"testing"

	"alibi/api"
	"alibi/prog"
)

// some is a program with sections and justifications in which nothing is wrong.
func some(t *testing.T) (api.Program, []api.Section, []api.Just) {
	t.Helper()
	p := parsed(t, "alibi 3 2 0, func, read 1 1, write 2 2, return, func, write 0 1, write 2 2, return")
	return p, []api.Section{tell(0, 1, 2, 1, 0, 0), tell(0, 0, 3, 1, 0, 0)}, []api.Just{solo, readOnly, by(1)}
}

// checkSome holds what is told of it against what should be.
func checkSome(t *testing.T) {
	t.Helper()
	p, l, js := some(t)
	check(t, p, l, js, fine, api.OK)
	if held, some, writes := Needs(p, l, 2); held != 2 || !some || !writes {
		t.Errorf("Needs = %b, %t, %t", held, some, writes)
	}
	for g, j := range js {
		if best, ok := Best(p, l, g); best != j || !ok {
			t.Errorf("Best of %d = %v, %t", g, best, ok)
		}
	}
}

// sameSection tells whether two sections are alike.
func sameSection(a, b api.Section) bool {
	heads := [4]uint32{a.Entry, a.Exit, a.LiveEntry, a.LiveExit} == [4]uint32{b.Entry, b.Exit, b.LiveEntry, b.LiveExit}
	return heads && slices.Equal(a.Held, b.Held) && slices.Equal(a.Live, b.Live)
}

// What is handed in isn't changed, spare room included.
func TestNothingHandedInIsChanged(t *testing.T) {
	for _, wrong := range []func([]api.Section, []api.Just) ([]api.Section, []api.Just){
		func(l []api.Section, js []api.Just) ([]api.Section, []api.Just) { return l, js },
		func(l []api.Section, js []api.Just) ([]api.Section, []api.Just) { return l[:1], js },
		func(l []api.Section, js []api.Just) ([]api.Section, []api.Just) { return l, js[:2] },
		func(l []api.Section, js []api.Just) ([]api.Section, []api.Just) { js[1].Lock = 1; return l, js },
		func(l []api.Section, js []api.Just) ([]api.Section, []api.Just) { js[2].Lock = 0; return l, js },
		func(l []api.Section, js []api.Just) ([]api.Section, []api.Just) { l[1].Held[1] = 0; return l, js },
	} {
		p, l, js := some(t)
		kept, _, _ := some(t)
		for f := range p.Funcs {
			p.Funcs[f] = append(slices.Clone(p.Funcs[f]), api.Node{Kind: 99})[:3]
			l[f].Held = append(slices.Clone(l[f].Held), 98)[:3]
			l[f].Live = append(slices.Clone(l[f].Live), 97)[:3]
		}
		p.Funcs = append(p.Funcs, []api.Node{{Kind: 96}})[:2]
		l, js = wrong(append(l, tell(95, 94))[:2], append(js, api.Just{Kind: 93})[:3])
		before, justs := slices.Clone(l[:cap(l)]), slices.Clone(js[:cap(js)])
		for f := range before {
			before[f].Held, before[f].Live = slices.Clone(before[f].Held), slices.Clone(before[f].Live)
		}
		Check(p, l, js)
		for g := range 5 {
			Needs(p, l, g-1)
			Best(p, l, g-1)
		}
		if !slices.EqualFunc(before, l[:cap(l)], sameSection) || !slices.Equal(justs, js[:cap(js)]) || !prog.Same(p, kept) {
			t.Errorf("%v, %v became %v, %v", before, justs, l, js)
		}
		for f, nodes := range p.Funcs {
			if nodes[:4][3].Kind != 99 || l[:2][f].Held[:4][3] != 98 || l[:2][f].Live[:4][3] != 97 {
				t.Errorf("room of the function %d was changed", f)
			}
		}
		if p.Funcs[:3][2][0].Kind != 96 {
			t.Error("room of the program was changed")
		}
	}
}

// What a call answers hangs on its arguments alone: what was handed in isn't kept, and no call leaves anything behind.
func TestNothingIsKept(t *testing.T) {
	p, l, js := some(t)
	check(t, p, l, js, fine, api.OK)
	js[2].Lock = 0
	check(t, p, l, js, badJust(0, 1), api.OK)
	l[0].Held[1] = 1
	check(t, p, l, js, fine, api.OK)
	if j, ok := Best(p, l, 2); j != by(0) || !ok {
		t.Errorf("Best = %v, %t", j, ok)
	}
	p.Funcs[0][0].Kind = api.Write
	check(t, p, l, js, badJust(0, 0), api.OK)
	if j, ok := Best(p, l, 1); j != solo || ok {
		t.Errorf("Best = %v, %t", j, ok)
	}
	checkSome(t)
	for _, programs := range refused() {
		for _, p := range programs {
			Check(p, make([]api.Section, 2), make([]api.Just, 1))
			Needs(p, make([]api.Section, 2), 0)
			checkSome(t)
		}
	}
	d := dice(176)
	for range 50 {
		p := anyProgram(&d, anyCounts(&d), 16, 8)
		l := tellAll(p, d.set, d.set)
		checkJusts(t, p, l, anyJusts(&d, p.Globals, p.Locks))
		bests(t, p, l)
		checkSome(t)
	}
}
