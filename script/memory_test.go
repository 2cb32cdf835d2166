package script

import (
	"bytes"
	"iter"
	"slices"
	"testing"

	"alibi/api"
	"alibi/prog"
	"alibi/sem"
)

// busy is a program, and picks along which threads begin, call, and take locks.
func busy(t *testing.T) (api.Program, []api.Pick) {
	t.Helper()
	p := parsed(t, "alibi 1 1 1\nfunc\nspawn 1 0 1\ncall 2 2\nlock 0 3\nbranch 4 3\nwrite 0 4\nfunc\nread 0 1\ncall 2 2\nreturn\nfunc\nskip 1\nreturn\n")
	return p, picks(0, 0, 1, 0, 1, 0, 1, 0, 1, 1, 0, 0)
}

// spoil fills all that a config's lists have, spare room included.
func spoil(c sem.Config) {
	threads := c.Threads[:cap(c.Threads)]
	for i := range threads {
		stack := threads[i].Stack[:cap(threads[i].Stack)]
		for k := range stack {
			stack[k] = sem.Frame{Func: -7, Node: 7}
		}
		threads[i] = sem.Thread{Slots: [8]int{5, 5}}
	}
}

// ruin fills all nodes of a program, and takes its functions away.
func ruin(p api.Program) {
	for f := range p.Funcs {
		for at := range p.Funcs[f] {
			p.Funcs[f][at] = api.Node{Kind: api.Return}
		}
		p.Funcs[f] = nil
	}
}

// collect answers all configs that are handed out.
func collect(along iter.Seq2[int, sem.Config]) []sem.Config {
	var l []sem.Config
	for _, c := range along {
		l = append(l, c)
	}
	return l
}

// 11.1, 11.2: neither picks, bytes nor the program are changed, spare room included.
func TestNothingHandedInIsChanged(t *testing.T) {
	p, l := busy(t)
	kept := copied(p)
	for f := range p.Funcs {
		p.Funcs[f] = append(slices.Clone(p.Funcs[f]), api.Node{Kind: 99})[:len(p.Funcs[f])]
	}
	room := append(slices.Clone(l), api.Pick{Who: 99}, api.Pick{Who: 98})
	b := []byte{1, 2, 11, 77, 78}
	for _, size := range []int{0, 4, len(l)} {
		Put(room[:size])
		Run(p, room[:size])
		Meets(p, room[:size])
		for _, c := range Along(p, room[:size]) {
			spoil(c)
		}
	}
	for size := range b {
		Get(b[:size])
	}
	if !slices.Equal(room[:len(l)], l) || room[len(l)].Who != 99 || room[len(l)+1].Who != 98 {
		t.Errorf("%v became %v", l, room)
	}
	if !bytes.Equal(b, []byte{1, 2, 11, 77, 78}) {
		t.Errorf("the bytes became %v", b)
	}
	for _, nodes := range p.Funcs {
		if nodes[:len(nodes)+1][len(nodes)].Kind != 99 {
			t.Errorf("room behind %v was changed", nodes)
		}
	}
	if !prog.Same(p, kept) {
		t.Errorf("%v became %v", kept, p)
	}
}

// 11.1: what is handed out is new memory, spare room included.
func TestWhatIsWrittenAndReadIsNewMemory(t *testing.T) {
	l, b := []api.Pick{{Who: 3}, {Way: true}, {Who: 7, Way: true}}, []byte{3, 8, 15}
	for range 3 {
		putted, _ := Put(l)
		got, _ := Get(b)
		if !bytes.Equal(putted, b) || !slices.Equal(got, l) {
			t.Fatalf("%v, %v", putted, got)
		}
		putted, got = putted[:cap(putted)], got[:cap(got)]
		for i := range putted {
			putted[i] = 99
		}
		for i := range got {
			got[i] = api.Pick{Who: 99}
		}
	}
	if !bytes.Equal(b, []byte{3, 8, 15}) || l[0].Who != 3 || !l[1].Way {
		t.Errorf("an answer shares memory: %v, %v", b, l)
	}
}

// 11.2: what becomes of a config that was handed out counts for nothing: not for later ones, nor for another going through.
func TestConfigsAreApart(t *testing.T) {
	p, l := busy(t)
	want := wayOf(t, p, l)
	along := Along(p, l)
	for range 3 {
		told := 0
		for n, c := range along {
			if n != told || !sem.Same(c, want[n]) {
				t.Fatalf("behind %d: %d, %v, not %v", told, n, c, want[n])
			}
			spoil(c)
			told++
		}
		if told != len(want) {
			t.Fatalf("%d configs", told)
		}
	}
	all, again := collect(along), collect(Along(p, l))
	for n, c := range all {
		spoil(c)
		if !slices.EqualFunc(all[n+1:], want[n+1:], sem.Same) || !slices.EqualFunc(again, want, sem.Same) {
			t.Fatalf("the config behind %d shares memory", n)
		}
	}
}

// 11.2: of one config, no two threads' stacks share memory.
func TestStacksAreApart(t *testing.T) {
	p, l := busy(t)
	want := wayOf(t, p, l)
	for n := range want {
		for who := range want[n].Threads {
			c := collect(Along(p, l))[n]
			stack := c.Threads[who].Stack
			for i := range stack[:cap(stack)] {
				stack[:cap(stack)][i].Func = 99
			}
			c.Threads[who] = want[n].Threads[who]
			if !sem.Same(c, want[n]) {
				t.Errorf("behind %d the thread %d shares memory: %v", n, who, c)
			}
		}
	}
}

// 11.2: the end of one run isn't that of another one, nor what is on the way.
func TestEndsAreApart(t *testing.T) {
	p, l := busy(t)
	want := wayOf(t, p, l)
	for n := range want {
		for range 2 {
			c, e := Run(p, l[:n])
			if e != api.OK || !sem.Same(c, want[n]) {
				t.Fatalf("behind %d: %v, %d, not %v", n, c, e, want[n])
			}
			spoil(c)
		}
	}
}

// 11.2: what is handed in isn't kept: a way goes along what was handed in, whatever becomes of that later.
func TestWhatIsHandedInIsNotKept(t *testing.T) {
	p, l := busy(t)
	want := wayOf(t, p, l)
	along := Along(p, l)
	for n := range l {
		l[n] = api.Pick{Who: 6}
	}
	ruin(p)
	if got := collect(along); !slices.EqualFunc(got, want, sem.Same) {
		t.Errorf("ahead of going through: %v, not %v", got, want)
	}
	p, l = busy(t)
	var got []sem.Config
	for n, c := range Along(p, l) {
		got = append(got, c)
		if n == 2 {
			clear(l)
			ruin(p)
		}
	}
	if !slices.EqualFunc(got, want, sem.Same) {
		t.Errorf("on the way: %v, not %v", got, want)
	}
	p, l = busy(t)
	p.Locks = 17
	along = Along(p, l)
	p.Locks = 1
	p.Funcs[0][0].Alt = 0
	if got := collect(along); len(got) != 0 {
		t.Errorf("of what might not be: %v", got)
	}
	nodes := [][]api.Node{nil}
	along = Along(api.Program{Funcs: nodes}, l)
	nodes[0] = []api.Node{{Kind: api.Return}}
	if got := collect(along); len(got) != 0 {
		t.Errorf("of a function without nodes: %v", got)
	}
}

// 11.2: who leaves early is handed nothing more; the next going through begins at first.
func TestLeftEarly(t *testing.T) {
	p, l := busy(t)
	want := wayOf(t, p, l)
	along := Along(p, l)
	for stop := range want {
		told := 0
		along(func(n int, c sem.Config) bool {
			if n != told || !sem.Same(c, want[n]) {
				t.Fatalf("behind %d: %d, %v", told, n, c)
			}
			told++
			return n < stop
		})
		if told != stop+1 {
			t.Errorf("left behind %d: handed out %d", stop, told)
		}
	}
}

// 11.2: several going through at a time don't meet each other.
func TestSeveralAtATime(t *testing.T) {
	p, l := busy(t)
	want := wayOf(t, p, l)
	along := Along(p, l)
	next, stop := iter.Pull2(along)
	defer stop()
	for n, c := range along {
		spoil(c)
		m, d, ok := next()
		if m != n || !ok || !sem.Same(d, want[n]) {
			t.Fatalf("beside %d: %d, %v, %v", n, m, d, ok)
		}
		spoil(d)
		if n%4 == 0 && !slices.EqualFunc(collect(along), want, sem.Same) {
			t.Fatalf("within %d: another way", n)
		}
	}
	if _, _, ok := next(); ok {
		t.Errorf("more than %d configs", len(want))
	}
}
