package kill

import (
	"math"
	"testing"

	"alibi/api"
	"alibi/prog"
	"alibi/sem"
)

// 14.1: what is done, and by whom.
func TestByHand(t *testing.T) {
	for _, c := range []struct {
		lines            string
		unlocks, touches []uint32
		begins           uint32
	}{
		{"alibi 0 0 0, func, return", []uint32{0}, []uint32{0}, 0},
		{"alibi 0 3 0, func, call 1 1, return, func, unlock 2 1, return", []uint32{4, 4}, []uint32{0, 0}, 0}, // the chapter's example
		{"alibi 2 2 0, func, unlock 1 0, func, read 1 0, func, write 0 0", []uint32{2, 0, 0}, []uint32{0, 2, 1}, 0},
		{"alibi 3 3 0, func, unlock 0 1, unlock 2 2, read 2 3, write 0 4, read 0 0", []uint32{5}, []uint32{5}, 0},
		// what is none of it
		{"alibi 1 1 1, func, lock 0 1, join 0 2, branch 0 3, skip 4, return", []uint32{0}, []uint32{0}, 0},
		// whether a node is ever come to counts for nothing
		{"alibi 2 2 1, func, return, unlock 1 0, read 1 0, write 0 0, spawn 0 0 0", []uint32{2}, []uint32{3}, 1},
		{"alibi 2 2 1, func, return, call 1 0, func, return, unlock 1 0, write 1 0, spawn 0 0 0", []uint32{2, 2}, []uint32{2, 2}, 3},
		{"alibi 1 1 1, func, call 1 1, unlock 0 2, write 0 3, spawn 2 0 4, return, func, skip 0, func, return", []uint32{1, 0, 0}, []uint32{1, 0, 0}, 1}, // behind who never ends
		// what a thread does isn't done by who begins it
		{"alibi 1 1 1, func, spawn 1 0 1, return, func, unlock 0 1, write 0 2, return", []uint32{0, 1}, []uint32{0, 1}, 1},
		{"alibi 0 0 1, func, return, func, spawn 0 0 1, return", []uint32{0, 0}, []uint32{0, 0}, 2},
		{"alibi 0 0 1, func, spawn 1 0 1, return, func, spawn 2 0 1, return, func, return", []uint32{0, 0, 0}, []uint32{0, 0, 0}, 3},
		{"alibi 1 1 1, func, call 1 1, return, func, spawn 2 0 1, return, func, unlock 0 1, write 0 2, return", []uint32{0, 0, 1}, []uint32{0, 0, 1}, 3},
		{"alibi 0 2 1, func, spawn 0 0 1, unlock 1 2, return", []uint32{2}, []uint32{0}, 1},
		{"alibi 0 2 1, func, call 1 1, unlock 1 2, return, func, spawn 0 0 0", []uint32{2, 0}, []uint32{0, 0}, 3}, // who calls is begun by who is called
		// what a function does isn't done by who is called
		{"alibi 2 2 1, func, unlock 0 1, read 0 2, spawn 1 0 3, call 1 4, return, func, unlock 1 1, write 1 0", []uint32{3, 2}, []uint32{3, 2}, 1},
		// by calls of calls, whichever number is greater
		{"alibi 1 1 1, func, unlock 0 1, read 0 2, spawn 0 0 0, func, call 0 0, func, call 1 0", []uint32{1, 1, 1}, []uint32{1, 1, 1}, 7},
		{"alibi 1 1 1, func, call 1 0, func, call 2 0, func, unlock 0 1, read 0 2, spawn 0 0 0", []uint32{1, 1, 1}, []uint32{1, 1, 1}, 7},
		{"alibi 4 4 1, func, call 2 1, unlock 0 1, func, call 3 1, read 1 1, func, unlock 2 1, write 2 2, return, func, call 0 1, spawn 2 0 1", []uint32{5, 5, 4, 5}, []uint32{4, 6, 4, 4}, 10},
		// by two ways, and more than once
		{"alibi 4 4 0, func, call 1 1, call 2 2, call 2 0, func, call 3 1, unlock 1 0, func, call 3 1, read 2 0, func, unlock 3 1, read 3 0", []uint32{10, 10, 8, 8}, []uint32{12, 8, 12, 8}, 0},
	} {
		p := parsed(t, c.lines)
		check(t, p, c.unlocks, c.touches, c.begins, api.OK)
		checkProgram(t, p)
	}
}

// 14.1: each node that may be, in a function that is called, and in one that isn't.
func TestEachNode(t *testing.T) {
	p := api.Program{Globals: 16, Locks: 16, Slots: 8, Funcs: make([][]api.Node, 16)}
	count := 0
	for kind := range 10 {
		for arg := range 16 {
			for alt := range 8 {
				n := api.Node{Kind: kind, Arg: arg, Alt: alt}
				if !prog.May(p, n, 1) || kind == api.Call {
					continue
				}
				for f := range p.Funcs {
					p.Funcs[f] = []api.Node{{Kind: api.Return}}
				}
				p.Funcs[9] = []api.Node{n}
				p.Funcs[12] = []api.Node{{Kind: api.Call, Arg: 9}}
				want := map[int]uint32{kind: 1 << arg}
				unlocks, touches := make([]uint32, 16), make([]uint32, 16)
				unlocks[9], unlocks[12] = want[4], want[4]
				touches[9], touches[12] = want[1]|want[2], want[1]|want[2]
				begins := uint32(0)
				if kind == 5 {
					begins = 1<<9 | 1<<12
				}
				check(t, p, unlocks, touches, begins, api.OK)
				count++
			}
		}
	}
	if count != 4*16+16*8+8+3 { // Read, Write, Lock, Unlock; Spawn; Join; Skip, Branch and Return
		t.Errorf("only %d nodes", count)
	}
}

// 14.1: all ways in which three functions may call each other, and some of them begin others.
func TestEachWayOfCalls(t *testing.T) {
	may, round := 0, 0
	for way := range 1 << 9 {
		for begins := range 1 << 3 {
			p := api.Program{Globals: 3, Locks: 3, Slots: 1}
			for f := range 3 {
				l := []api.Node{{Kind: api.Unlock, Arg: f, Next: 1}, {Kind: api.Read + way%2, Arg: 2 - f}}
				for to := range 3 {
					if way>>(f*3+to)&1 == 1 {
						l = append(l, api.Node{Kind: api.Call, Arg: to})
					}
				}
				if begins>>f&1 == 1 {
					l = append(l, api.Node{Kind: api.Spawn, Arg: (f + way) % 3})
				}
				p.Funcs = append(p.Funcs, l)
			}
			if checkProgram(t, p) {
				may++
			} else {
				round++
			}
		}
	}
	if may != 25*8 || round != (512-25)*8 { // there are 25 ways that don't go round
		t.Errorf("%d may be, %d may not", may, round)
	}
}

// 14.1, 14.2: many programs of up to 16 functions.
func TestManyPrograms(t *testing.T) {
	d := dice(141)
	more := 0
	for range 6000 {
		p := anyProgram(&d, 1+d.below(16))
		if !checkProgram(t, p) {
			t.Fatalf("%v may not be", p)
		}
		unlocks, _ := Unlocks(p)
		touches, _ := Touches(p)
		begins, _ := Begins(p)
		for f, l := range p.Funcs {
			for _, n := range l {
				if n.Kind != api.Call {
					continue
				}
				if unlocks[n.Arg]&^unlocks[f] != 0 || touches[n.Arg]&^touches[f] != 0 || begins>>n.Arg&1 > begins>>f&1 {
					t.Fatalf("%v: %d calls %d, which may do more", p, f, n.Arg)
				}
				if unlocks[f]&^unlocks[n.Arg] != 0 {
					more++
				}
			}
		}
	}
	if more < 1000 {
		t.Errorf("only %d may do more than who is called", more)
	}
}

// 14.1: the greatest programs: each function calls the next one 63 times, or all behind it.
func TestGreatestPrograms(t *testing.T) {
	for _, all := range []bool{false, true} {
		p := api.Program{Globals: 16, Locks: 16, Slots: 8, Funcs: make([][]api.Node, 16)}
		unlocks, touches := make([]uint32, 16), make([]uint32, 16)
		for f := range p.Funcs {
			unlocks[f], touches[f] = 1<<15, 1<<15|1<<14
			for i := range 63 {
				n := api.Node{Kind: api.Call, Arg: f + 1, Next: i + 1}
				if all {
					n.Arg += i % max(15-f, 1)
				}
				if f == 15 {
					n = []api.Node{{Kind: api.Unlock, Arg: 15, Next: 63}, {Kind: api.Read, Arg: 14, Next: 3}, {Kind: api.Write, Arg: 15, Next: i}}[i%3]
				}
				p.Funcs[f] = append(p.Funcs[f], n)
			}
			p.Funcs[f] = append(p.Funcs[f], api.Node{Kind: api.Return})
		}
		check(t, p, unlocks, touches, 0, api.OK)
		p.Funcs[15][63] = api.Node{Kind: api.Spawn, Arg: 15, Next: 63, Alt: 7}
		check(t, p, unlocks, touches, 1<<16-1, api.OK)
		p.Funcs[15][63] = api.Node{Kind: api.Call, Arg: 0}
		check(t, p, nil, nil, 0, api.ErrRound)
	}
}

// 14.1: nothing, and chapter 5's error, of what may not be.
func TestWhatMayNotBe(t *testing.T) {
	for want, programs := range refused() {
		for _, p := range programs {
			if _, _, e := prog.Check(p); e != want {
				t.Fatalf("%v: chapter 5's error is %d, not %d", p, e, want)
			}
			check(t, p, nil, nil, 0, want)
		}
	}
}

// 14.1: each call ends at whatever is handed in.
func TestWhateverIsHandedIn(t *testing.T) {
	d := dice(142)
	numbers := []int{math.MinInt, math.MinInt32, -33, -1, 0, 1, 2, 15, 16, 31, 32, 64, 1 << 32, 1<<32 + 1, math.MaxInt}
	errors := map[api.Errno]int{}
	for range 20000 {
		p := anyProgram(&d, 1+d.below(5))
		for range 1 + d.below(3) {
			f := d.below(len(p.Funcs))
			n := &p.Funcs[f][d.below(len(p.Funcs[f]))]
			field := []*int{&n.Kind, &n.Arg, &n.Next, &n.Alt, &p.Globals, &p.Locks, &p.Slots}[d.below(7)]
			*field = d.below(4)
			if d.below(3) == 0 {
				*field = numbers[d.below(len(numbers))]
			}
		}
		checkProgram(t, p)
		_, e := Begins(p)
		errors[e]++
	}
	for _, e := range []api.Errno{api.OK, api.ErrArg, api.ErrForm, api.ErrLong, api.ErrRound} {
		if errors[e] < 50 {
			t.Errorf("%d was answered only %d times", e, errors[e])
		}
	}
	check(t, api.Program{Funcs: make([][]api.Node, 1<<20)}, nil, nil, 0, api.ErrLong)
	check(t, api.Program{Funcs: [][]api.Node{make([]api.Node, 1<<20)}}, nil, nil, 0, api.ErrLong)
}

// call is a call of a function, and which locks its thread had then.
type call struct {
	callee int
	had    uint32
}

// runner goes along a script, and holds what threads do against what functions may do.
type runner struct {
	t       *testing.T
	p       api.Program
	c       sem.Config
	open    map[int][]call // of each thread, calls that haven't ended yet
	unlocks []uint32
	touches []uint32
	begins  uint32
	kept    int // how many calls ended whose thread had a lock that it kept
	lost    int // and one that it had no more
}

// step does a step of a thread.
func (r *runner) step(x api.Pick) {
	n, lives := r.c.At(r.p, x.Who)
	if !lives || !r.c.Enabled(r.p, x.Who) {
		return
	}
	r.isToldOf(n, r.c.Threads[x.Who].Stack)
	if n.Kind == api.Call {
		r.open[x.Who] = append(r.open[x.Who], call{n.Arg, r.c.Held(x.Who)})
	}
	r.c = r.c.Step(r.p, x)
	held := r.c.Held(x.Who)
	for _, one := range r.open[x.Who] { // while it goes on, too, it keeps them
		if one.had&^r.unlocks[one.callee]&^held != 0 {
			r.t.Fatalf("%v: the thread %d had %b, called %d, and has %b", r.p, x.Who, one.had, one.callee, held)
		}
	}
	if last := len(r.open[x.Who]) - 1; n.Kind == api.Return && last >= 0 {
		r.ended(r.open[x.Who][last], held)
		r.open[x.Who] = r.open[x.Who][:last]
	}
}

// isToldOf tells whether what is done is told of all functions in which it is done.
func (r *runner) isToldOf(n api.Node, stack []sem.Frame) {
	for _, place := range stack {
		told := true
		switch n.Kind {
		case api.Unlock:
			told = r.unlocks[place.Func]>>n.Arg&1 == 1
		case api.Read, api.Write:
			told = r.touches[place.Func]>>n.Arg&1 == 1
		case api.Spawn:
			told = r.begins>>place.Func&1 == 1
		}
		if !told {
			r.t.Fatalf("%v: it isn't told that %d may do %v", r.p, place.Func, n)
		}
	}
}

// ended counts a call that ended.
func (r *runner) ended(one call, held uint32) {
	if one.had&held != 0 {
		r.kept++
	}
	if one.had&^held != 0 {
		r.lost++
	}
}

// run goes along a script, of a program that may be.
func run(t *testing.T, p api.Program, l []api.Pick) *runner {
	t.Helper()
	c, e := sem.Start(p)
	if e != api.OK {
		t.Fatalf("%v may not be: %d", p, e)
	}
	r := &runner{t: t, p: p, c: c, open: map[int][]call{}}
	r.unlocks, _ = Unlocks(p)
	r.touches, _ = Touches(p)
	r.begins, _ = Begins(p)
	for _, x := range l {
		r.step(x)
	}
	return r
}

// 14.2: which locks a thread has still, behind a call.
func TestKeptByHand(t *testing.T) {
	for _, c := range []struct {
		lines      string
		kept, lost int
	}{
		{"alibi 0 2 0, func, lock 0 1, lock 1 2, call 1 3, return, func, return", 1, 0},
		{"alibi 0 2 0, func, lock 0 1, lock 1 2, call 1 3, return, func, unlock 1 1, return", 1, 1},
		{"alibi 0 2 0, func, lock 0 1, call 1 2, return, func, unlock 0 1, lock 1 2, return", 0, 1},
		{"alibi 0 2 0, func, lock 0 1, call 1 2, return, func, call 2 1, return, func, unlock 0 1, return", 0, 2},
		{"alibi 0 2 0, func, lock 0 1, lock 1 2, call 1 3, return, func, call 2 1, unlock 0 2, return, func, lock 1 0", 0, 0}, // it never ends
		{"alibi 0 1 0, func, lock 0 1, call 1 2, return, func, unlock 0 1, lock 0 2, return", 1, 0},                           // it has it anew
	} {
		if r := run(t, parsed(t, c.lines), make([]api.Pick, 20)); r.kept != c.kept || r.lost != c.lost {
			t.Errorf("%s: %d kept, %d lost", c.lines, r.kept, r.lost)
		}
	}
}

// 14.2: what is done by threads, along many scripts, is told; and locks are kept that are not told to be given back.
func TestManyScripts(t *testing.T) {
	d := dice(143)
	kinds := []int{1, 2, 3, 3, 3, 4, 4, 4, 5, 5, 6, 8}
	kept, lost, threads := 0, 0, 0
	for range 12000 {
		p := api.Program{Globals: 2, Locks: 3, Slots: 2, Funcs: make([][]api.Node, 2+d.below(4))}
		for f := range p.Funcs {
			size := 3 + d.below(4)
			for i := range size - 1 {
				n := anyNode(&d, p, size, kinds)
				if behind := len(p.Funcs) - 1 - f; behind > 0 && d.below(3) == 0 {
					n = api.Node{Kind: api.Call, Arg: f + 1 + d.below(behind)}
				}
				if n.Kind != api.Branch { // so that most calls end
					n.Next = i + 1
				}
				p.Funcs[f] = append(p.Funcs[f], n)
			}
			p.Funcs[f] = append(p.Funcs[f], api.Node{Kind: api.Return})
		}
		l := make([]api.Pick, 80)
		for i := range l {
			l[i] = api.Pick{Who: d.below(1 + d.below(4)), Way: d.below(2) == 0}
		}
		r := run(t, p, l)
		kept, lost, threads = kept+r.kept, lost+r.lost, threads+len(r.c.Threads)-1
	}
	if kept < 1500 || lost < 500 || threads < 4000 {
		t.Errorf("only %d calls kept a lock, %d lost one, %d threads were begun", kept, lost, threads)
	}
}
