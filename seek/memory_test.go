package seek

import (
	"slices"
	"testing"

	"alibi/api"
	"alibi/prog"
)

// busy is a program whose threads call, take locks, and race at last.
func busy(t *testing.T) api.Program {
	t.Helper()
	return parsed(t, "alibi 1 1 1\nfunc\nspawn 1 0 1\ncall 2 2\nlock 0 3\nbranch 3 4\nwrite 0 4\nfunc\ncall 2 1\nread 0 2\nreturn\nfunc\nskip 1\nreturn\n")
}

// What is handed in isn't changed, spare room included.
func TestNothingHandedInIsChanged(t *testing.T) {
	p, kept := busy(t), busy(t)
	for f, l := range p.Funcs {
		p.Funcs[f] = append(slices.Clone(l), api.Node{Kind: 99})[:len(l)]
	}
	spare := []api.Node{{Kind: 98}}
	p.Funcs = append(p.Funcs, spare)[:len(p.Funcs)]
	for _, most := range []int{-1, 0, 1, 5, 999} {
		Find(p, most)
	}
	for f, l := range p.Funcs {
		if l[:len(l)+1][len(l)] != (api.Node{Kind: 99}) {
			t.Errorf("room of the function %d was changed", f)
		}
	}
	if last := p.Funcs[:len(p.Funcs)+1][len(p.Funcs)]; !slices.Equal(last, spare) || spare[0].Kind != 98 {
		t.Errorf("room behind the functions became %v", last)
	}
	if !prog.Same(p, kept) {
		t.Errorf("%v became %v", kept, p)
	}
}

// What is handed out is new memory, spare room included; nothing is kept from call to call, not even from one that was
// refused.
func TestAnswersAreNewMemory(t *testing.T) {
	p := busy(t)
	want := picks(0, 0, 0, 0, 0, 8, 1, 1, 1)
	first, _, _ := Find(p, 999)
	for range 3 {
		l, is, e := Find(p, 999)
		if !slices.Equal(l, want) || is != Found || e != api.OK {
			t.Fatalf("%v, %d, %d", l, is, e)
		}
		l = l[:cap(l)]
		for i := range l {
			l[i] = api.Pick{Who: 7, Way: true}
		}
		Find(api.Program{}, 999)
		Find(p, 3)
		Find(parsed(t, "alibi 1 0 0\nfunc\nwrite 0 0\n"), 9)
	}
	if !slices.Equal(first, want) {
		t.Errorf("%v became %v", want, first)
	}
}
