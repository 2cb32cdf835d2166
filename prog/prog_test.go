package prog

import (
	"math"
	"slices"
	"testing"

	"alibi/api"
)

// row is a row of the chapter's table: what Arg, Next and Alt of a kind name; nothing, where the text is empty.
type row struct{ arg, next, alt string }

// table is the chapter's table of nodes.
var table = [10]row{
	0: {"", "node", ""},
	1: {"global", "node", ""},
	2: {"global", "node", ""},
	3: {"lock", "node", ""},
	4: {"lock", "node", ""},
	5: {"function", "node", "slot"},
	6: {"slot", "node", ""},
	7: {"function", "node", ""},
	8: {"", "node", "node"},
	9: {"", "", ""},
}

// fits tells whether a field may be, by what it names.
func fits(what string, n int, p api.Program, size int) bool {
	switch what {
	case "global":
		return 0 <= n && n < p.Globals
	case "lock":
		return 0 <= n && n < p.Locks
	case "slot":
		return 0 <= n && n < p.Slots
	case "function":
		return 0 <= n && n < len(p.Funcs)
	case "node":
		return 0 <= n && n < size
	}
	return n == 0
}

// mayByHand answers what May should, by the chapter's table.
func mayByHand(p api.Program, n api.Node, size int) bool {
	if n.Kind < 0 || n.Kind > 9 {
		return false
	}
	if size < 1 {
		size = 1
	}
	r := table[n.Kind]
	return fits(r.arg, n.Arg, p, size) && fits(r.next, n.Next, p, size) && fits(r.alt, n.Alt, p, size)
}

// answer is what Check answers.
type answer struct {
	f, n int
	e    api.Errno
}

func ask(p api.Program) answer {
	f, n, e := Check(p)
	return answer{f, n, e}
}

// callsOf answers which functions a function calls.
func callsOf(p api.Program, f int) []int {
	var l []int
	for _, n := range p.Funcs[f] {
		if n.Kind == 7 {
			l = append(l, n.Arg)
		}
	}
	return l
}

// callsTo tells whether a function is another one, or comes to it by calls, of functions that weren't met.
func callsTo(p api.Program, from, to int, met map[int]bool) bool {
	met[from] = true
	if from == to {
		return true
	}
	for _, next := range callsOf(p, from) {
		if !met[next] && callsTo(p, next, to, met) {
			return true
		}
	}
	return false
}

// checkByHand answers what Check should: by the chapter's words, one by one.
func checkByHand(p api.Program) answer {
	switch {
	case p.Globals < 0, p.Locks < 0, p.Slots < 0, len(p.Funcs) < 1:
		return answer{-1, -1, api.ErrArg}
	case p.Globals > 16, p.Locks > 16, p.Slots > 8, len(p.Funcs) > 16:
		return answer{-1, -1, api.ErrLong}
	}
	for f, l := range p.Funcs {
		if len(l) < 1 {
			return answer{f, -1, api.ErrArg}
		}
		if len(l) > 64 {
			return answer{f, -1, api.ErrLong}
		}
		for i, n := range l {
			if !mayByHand(p, n, len(l)) {
				return answer{f, i, api.ErrForm}
			}
		}
	}
	for f, l := range p.Funcs {
		for i, n := range l {
			if n.Kind == 7 && callsTo(p, n.Arg, f, map[int]bool{}) {
				return answer{f, i, api.ErrRound}
			}
		}
	}
	return answer{}
}

func checkCheck(t *testing.T, p api.Program) {
	t.Helper()
	if got, want := ask(p), checkByHand(p); got != want {
		t.Fatalf("Check(%v) = %v, not %v", p, got, want)
	}
}

// ret is a function of one Return.
func ret() []api.Node { return []api.Node{{Kind: api.Return}} }

// rets answers so many functions of one Return.
func rets(n int) [][]api.Node {
	var l [][]api.Node
	for range n {
		l = append(l, ret())
	}
	return l
}

// calls is a function that calls others, one behind the other, and returns.
func calls(l ...int) []api.Node {
	var nodes []api.Node
	for i, f := range l {
		nodes = append(nodes, api.Node{Kind: api.Call, Arg: f, Next: i + 1})
	}
	return append(nodes, api.Node{Kind: api.Return})
}

// long is a function of so many nodes, each of which goes on at the last one; it returns.
func long(n int) []api.Node {
	var nodes []api.Node
	for i := range n {
		nodes = append(nodes, api.Node{Kind: api.Skip, Next: n - 1})
		if i == n-1 {
			nodes[i] = api.Node{Kind: api.Return}
		}
	}
	return nodes
}

// copied answers a program that shares no memory with another one, but is like it.
func copied(p api.Program) api.Program {
	q := p
	q.Funcs = nil
	for _, l := range p.Funcs {
		q.Funcs = append(q.Funcs, slices.Clone(l))
	}
	return q
}

// every is a program that may be, and has a node of each kind, and every field at its greatest.
func every() api.Program {
	return api.Program{Globals: 3, Locks: 2, Slots: 4, Funcs: [][]api.Node{
		{
			{Kind: api.Skip, Next: 1},
			{Kind: api.Read, Arg: 2, Next: 9},
			{Kind: api.Write, Arg: 2, Next: 9},
			{Kind: api.Lock, Arg: 1, Next: 9},
			{Kind: api.Unlock, Arg: 1, Next: 9},
			{Kind: api.Spawn, Arg: 2, Next: 9, Alt: 3},
			{Kind: api.Join, Arg: 3, Next: 9},
			{Kind: api.Call, Arg: 2, Next: 9},
			{Kind: api.Branch, Next: 9, Alt: 9},
			{Kind: api.Return},
		},
		{{Kind: api.Call, Arg: 2, Next: 1}, {Kind: api.Return}},
		{{Kind: api.Return}},
	}}
}

// edges are numbers at and about the edges of programs of all sizes, and some that become such, if bits of them are lost.
func edges() []int {
	return []int{
		math.MinInt, math.MinInt + 1, math.MinInt32, -1 << 32, -65, -2, -1,
		0, 1, 2, 3, 4, 7, 8, 9, 15, 16, 17, 63, 64, 65,
		255, 256, 257, 1<<31 - 1, 1 << 31, 1 << 32, 1<<32 + 1, math.MaxInt - 1, math.MaxInt,
	}
}

// counts are programs of which May is asked: of all four counts at every edge.
func counts() []api.Program {
	l := []api.Program{
		{}, {Funcs: rets(1)}, {Globals: 16, Locks: 16, Slots: 8, Funcs: rets(16)},
		{Globals: 3, Locks: 8, Slots: 2, Funcs: rets(4)}, {Globals: 1, Locks: 2, Slots: 3, Funcs: [][]api.Node{nil, nil}},
		{Globals: 256, Locks: 257, Slots: 255, Funcs: rets(65)},
	}
	for _, n := range edges() {
		l = append(l,
			api.Program{Globals: n, Locks: 1, Slots: 2, Funcs: rets(3)},
			api.Program{Globals: 1, Locks: n, Slots: 2, Funcs: rets(3)},
			api.Program{Globals: 1, Locks: 2, Slots: n, Funcs: rets(3)})
	}
	return l
}

// 5.1: each kind, each field at 0, at the last that there is, one above it and below 0.
func TestMay(t *testing.T) {
	p := api.Program{Globals: 3, Locks: 4, Slots: 2, Funcs: rets(5)}
	const size = 6
	for _, c := range []struct {
		kind            int
		args, nexts, as int // how many each of the fields may name
	}{
		{api.Skip, 1, 6, 1}, {api.Read, 3, 6, 1}, {api.Write, 3, 6, 1}, {api.Lock, 4, 6, 1}, {api.Unlock, 4, 6, 1},
		{api.Spawn, 5, 6, 2}, {api.Join, 2, 6, 1}, {api.Call, 5, 6, 1}, {api.Branch, 1, 6, 6}, {api.Return, 1, 1, 1},
	} {
		for _, n := range []api.Node{{}, {Arg: c.args - 1}, {Next: c.nexts - 1}, {Alt: c.as - 1}, {Arg: c.args - 1, Next: c.nexts - 1, Alt: c.as - 1}} {
			n.Kind = c.kind
			if !May(p, n, size) {
				t.Errorf("May(%v) = false", n)
			}
		}
		for _, n := range []api.Node{
			{Arg: c.args}, {Next: c.nexts}, {Alt: c.as}, {Arg: -1}, {Next: -1}, {Alt: -1},
			{Arg: math.MaxInt}, {Next: math.MaxInt}, {Alt: math.MaxInt}, {Arg: math.MinInt}, {Next: math.MinInt}, {Alt: math.MinInt},
			{Arg: c.args, Next: c.nexts - 1}, {Next: c.nexts, Alt: c.as - 1}, {Arg: -1, Next: -1, Alt: -1},
		} {
			n.Kind = c.kind
			if May(p, n, size) {
				t.Errorf("May(%v) = true", n)
			}
		}
	}
}

// 5.1: a kind that is none may never be.
func TestMayOfOtherKinds(t *testing.T) {
	p := api.Program{Globals: 16, Locks: 16, Slots: 8, Funcs: rets(16)}
	for _, kind := range []int{math.MinInt, -1 << 32, -10, -9, -2, -1, 10, 11, 16, 255, 256, 265, 1 << 32, 1<<32 + 9, math.MaxInt} {
		if May(p, api.Node{Kind: kind}, 64) {
			t.Errorf("a node of the kind %d may be", kind)
		}
	}
}

// 5.1: where there is none of what a kind names, no such node may be.
func TestMayOfNone(t *testing.T) {
	full := api.Program{Globals: 16, Locks: 16, Slots: 8, Funcs: rets(16)}
	for _, none := range []int{0, -1, math.MinInt} {
		for _, c := range []struct {
			change func(p *api.Program)
			kinds  []int // that may not be any more
		}{
			{func(p *api.Program) {}, nil},
			{func(p *api.Program) { p.Globals = none }, []int{api.Read, api.Write}},
			{func(p *api.Program) { p.Locks = none }, []int{api.Lock, api.Unlock}},
			{func(p *api.Program) { p.Slots = none }, []int{api.Spawn, api.Join}},
			{func(p *api.Program) { p.Funcs = nil }, []int{api.Spawn, api.Call}},
			{func(p *api.Program) { p.Funcs = [][]api.Node{} }, []int{api.Spawn, api.Call}},
		} {
			p := full
			c.change(&p)
			for kind := range 10 {
				if got, want := May(p, api.Node{Kind: kind}, 1), !slices.Contains(c.kinds, kind); got != want {
					t.Errorf("May of the kind %d in a program of %d, %d, %d, %d = %v", kind, p.Globals, p.Locks, p.Slots, len(p.Funcs), got)
				}
			}
		}
	}
}

// 5.1: a size below 1 counts as 1.
func TestMayOfSizes(t *testing.T) {
	p := every()
	for _, size := range []int{math.MinInt, -64, -1, 0, 1} {
		for kind := range 10 {
			if !May(p, api.Node{Kind: kind}, size) {
				t.Errorf("May of the kind %d, size %d = false", kind, size)
			}
			if May(p, api.Node{Kind: kind, Next: 1}, size) || May(p, api.Node{Kind: kind, Next: -1}, size) {
				t.Errorf("May of the kind %d, size %d, that goes on at 1 or -1 = true", kind, size)
			}
		}
		if May(p, api.Node{Kind: api.Branch, Alt: 1}, size) || May(p, api.Node{Kind: api.Branch, Alt: -1}, size) {
			t.Errorf("May of a Branch to 1 or -1, size %d = true", size)
		}
	}
	for _, size := range []int{2, 64, 65, 1000, math.MaxInt} {
		for _, n := range []api.Node{{Kind: api.Skip, Next: size - 1}, {Kind: api.Branch, Next: size - 1, Alt: size - 1}} {
			if !May(p, n, size) {
				t.Errorf("May(%v, %d) = false", n, size)
			}
		}
	}
}

// 5.1: all kinds, counts, sizes and fields at an edge.
func TestMayAsTheTableTells(t *testing.T) {
	kinds := []int{math.MinInt, -1, 0, 1, 2, 3, 4, 5, 6, 7, 8, 9, 10, 256, 1 << 32, math.MaxInt}
	args := []int{math.MinInt, -1 << 32, -1, 0, 1, 2, 3, 4, 7, 8, 15, 16, 17, 255, 256, 1 << 32, math.MaxInt}
	nodes := []int{math.MinInt, -1, 0, 1, 2, 3, 15, 16, 63, 64, 256, math.MaxInt}
	for _, p := range counts() {
		for _, size := range []int{math.MinInt, 0, 1, 2, 16, 64, math.MaxInt} {
			for _, kind := range kinds {
				for _, arg := range args {
					for _, next := range nodes {
						for _, alt := range nodes {
							n := api.Node{Kind: kind, Arg: arg, Next: next, Alt: alt}
							if got := May(p, n, size); got != mayByHand(p, n, size) {
								t.Fatalf("May(%v, %d) of %d, %d, %d, %d = %v", n, size, p.Globals, p.Locks, p.Slots, len(p.Funcs), got)
							}
						}
					}
				}
			}
		}
	}
}

// 5.1
func TestSucc(t *testing.T) {
	for _, c := range []struct {
		n api.Node
		l []int
	}{
		{api.Node{Kind: api.Skip}, []int{0}},
		{api.Node{Kind: api.Skip, Next: 3}, []int{3}},
		{api.Node{Kind: api.Read, Arg: 1, Next: 3}, []int{3}},
		{api.Node{Kind: api.Write, Arg: 1, Next: 3}, []int{3}},
		{api.Node{Kind: api.Lock, Arg: 1, Next: 3}, []int{3}},
		{api.Node{Kind: api.Unlock, Arg: 1, Next: 3}, []int{3}},
		{api.Node{Kind: api.Spawn, Arg: 1, Next: 3, Alt: 2}, []int{3}},
		{api.Node{Kind: api.Join, Arg: 1, Next: 3}, []int{3}},
		{api.Node{Kind: api.Call, Arg: 1, Next: 3}, []int{3}},
		{api.Node{Kind: api.Branch, Next: 3, Alt: 2}, []int{3, 2}},
		{api.Node{Kind: api.Branch, Next: 2, Alt: 3}, []int{2, 3}},
		{api.Node{Kind: api.Branch, Next: 4, Alt: 4}, []int{4, 4}},
		{api.Node{Kind: api.Branch}, []int{0, 0}},
		{api.Node{Kind: api.Return}, nil},

		// nodes that may not be
		{api.Node{Kind: api.Return, Arg: 1, Next: 3, Alt: 2}, nil},
		{api.Node{Kind: api.Skip, Arg: 7, Next: -5, Alt: 9}, []int{-5}},
		{api.Node{Kind: api.Branch, Arg: 7, Next: -5, Alt: 99}, []int{-5, 99}},
		{api.Node{Kind: api.Branch, Next: math.MaxInt, Alt: math.MinInt}, []int{math.MaxInt, math.MinInt}},
		{api.Node{Kind: -1, Next: 3, Alt: 2}, []int{3}},
		{api.Node{Kind: 10, Next: 3, Alt: 2}, []int{3}},
		{api.Node{Kind: 265, Next: 3}, []int{3}},
		{api.Node{Kind: math.MinInt, Next: math.MinInt}, []int{math.MinInt}},
		{api.Node{Kind: 1<<32 + 9, Next: math.MaxInt}, []int{math.MaxInt}},
	} {
		if l := Succ(c.n); !slices.Equal(l, c.l) {
			t.Errorf("Succ(%v) = %v, not %v", c.n, l, c.l)
		}
	}
}

// 5.1: what is handed out is new memory, spare room included.
func TestSuccIsNewMemory(t *testing.T) {
	for kind := -1; kind <= 10; kind++ {
		n := api.Node{Kind: kind, Next: 3, Alt: 2}
		l := Succ(n)
		had := slices.Clone(l)
		for range 2 {
			spoilt := Succ(n)
			spoilt = spoilt[:cap(spoilt)]
			for i := range spoilt {
				spoilt[i] = 99
			}
		}
		if !slices.Equal(l, had) || !slices.Equal(Succ(n), had) {
			t.Errorf("two answers of Succ(%v) share memory", n)
		}
	}
}

// 5.1: of any node.
func TestAccess(t *testing.T) {
	for kind := -2; kind <= 11; kind++ {
		for _, arg := range edges() {
			n := api.Node{Kind: kind, Arg: arg, Next: 5, Alt: 6}
			g, write, is := Access(n)
			if g != arg || write != (kind == api.Write) || is != (kind == api.Read || kind == api.Write) {
				t.Errorf("Access(%v) = %d, %v, %v", n, g, write, is)
			}
		}
	}
	for _, kind := range []int{math.MinInt, 257, 258, 1<<32 + 1, 1<<32 + 2, math.MaxInt} {
		if g, write, is := Access(api.Node{Kind: kind, Arg: 7}); g != 7 || write || is {
			t.Errorf("Access of the kind %d = %d, %v, %v", kind, g, write, is)
		}
	}
}

// 5.1: programs that part in one field alone.
func TestSamePartsByEachField(t *testing.T) {
	p := every()
	if !Same(p, p) || !Same(p, copied(p)) {
		t.Error("a program isn't like itself")
	}
	part := func(what string, change func(q *api.Program)) {
		q := copied(p)
		change(&q)
		if Same(p, q) || Same(q, p) {
			t.Errorf("programs that part in %s are alike", what)
		}
		if !Same(q, copied(q)) {
			t.Errorf("a program that parted in %s isn't like itself", what)
		}
	}
	for _, by := range []int{1, -1, 256, -100, 1 << 32, math.MinInt} {
		part("globals", func(q *api.Program) { q.Globals += by })
		part("locks", func(q *api.Program) { q.Locks += by })
		part("slots", func(q *api.Program) { q.Slots += by })
		for f, l := range p.Funcs {
			for i := range l {
				part("a kind", func(q *api.Program) { q.Funcs[f][i].Kind += by })
				part("an Arg", func(q *api.Program) { q.Funcs[f][i].Arg += by })
				part("a Next", func(q *api.Program) { q.Funcs[f][i].Next += by })
				part("an Alt", func(q *api.Program) { q.Funcs[f][i].Alt += by })
			}
		}
	}
	for f := range p.Funcs {
		last := len(p.Funcs[f]) - 1
		part("a node more", func(q *api.Program) { q.Funcs[f] = append(q.Funcs[f], api.Node{}) })
		part("a node ahead", func(q *api.Program) { q.Funcs[f] = append([]api.Node{{}}, q.Funcs[f]...) })
		part("a node less", func(q *api.Program) { q.Funcs[f] = q.Funcs[f][:last] })
		part("no node", func(q *api.Program) { q.Funcs[f] = nil })
	}
	part("a function more", func(q *api.Program) { q.Funcs = append(q.Funcs, nil) })
	part("a function ahead", func(q *api.Program) { q.Funcs = append([][]api.Node{nil}, q.Funcs...) })
	part("a function less", func(q *api.Program) { q.Funcs = q.Funcs[:2] })
	part("no function", func(q *api.Program) { q.Funcs = nil })
	part("the order of nodes", func(q *api.Program) { slices.Reverse(q.Funcs[0]) })
	part("the order of functions", func(q *api.Program) { slices.Reverse(q.Funcs) })
	part("where a function ends", func(q *api.Program) {
		q.Funcs[0], q.Funcs[1] = append(q.Funcs[0], q.Funcs[1][0]), q.Funcs[1][1:]
	})
}

// 5.1: whatever the programs are; and a list without elements may be nil or not.
func TestSameOfPrograms(t *testing.T) {
	for _, l := range [][]api.Program{
		{{}, {Funcs: [][]api.Node{}}},
		{{Globals: -1}, {Globals: -1, Funcs: [][]api.Node{}}},
		{{Globals: 1, Locks: 1}}, {{Globals: 1, Slots: 1}}, {{Locks: 1, Slots: 1}},
		{{Globals: 1, Locks: 2, Slots: 3}}, {{Globals: 3, Locks: 2, Slots: 1}}, {{Globals: 2, Locks: 1, Slots: 3}},
		{{Funcs: [][]api.Node{nil}}, {Funcs: [][]api.Node{{}}}, {Funcs: [][]api.Node{ret()[:0]}}},
		{{Funcs: [][]api.Node{nil, {}}}, {Funcs: [][]api.Node{{}, nil}}},
		{{Funcs: [][]api.Node{ret(), {}}}, {Funcs: [][]api.Node{ret(), nil}}},
		{{Funcs: [][]api.Node{{}, ret()}}, {Funcs: [][]api.Node{nil, ret()}}},
		{{Funcs: rets(1)}}, {{Funcs: rets(2)}}, {{Funcs: rets(17)}},
		{{Funcs: [][]api.Node{{{Kind: 99, Arg: -1, Next: -1, Alt: -1}}}}},
		{{Funcs: [][]api.Node{long(65)}}}, {{Funcs: [][]api.Node{long(64)}}},
		{every(), copied(every())},
	} {
		for _, a := range l {
			for _, b := range l {
				if !Same(a, b) {
					t.Errorf("Same(%v, %v) = false", a, b)
				}
			}
		}
	}
	alone := []api.Program{
		{}, {Globals: 1}, {Locks: 1}, {Slots: 1}, {Globals: -1}, {Locks: -1}, {Slots: -1},
		{Globals: 1, Locks: 1}, {Globals: 1, Slots: 1}, {Locks: 1, Slots: 1},
		{Funcs: [][]api.Node{nil}}, {Funcs: [][]api.Node{nil, nil}}, {Funcs: [][]api.Node{nil, ret()}}, {Funcs: [][]api.Node{ret(), nil}},
		{Funcs: rets(1)}, {Funcs: rets(2)}, {Funcs: [][]api.Node{{{Kind: 99}}}}, {Funcs: [][]api.Node{append(ret(), ret()...)}},
	}
	for i, a := range alone {
		for j, b := range alone {
			if Same(a, b) != (i == j) {
				t.Errorf("Same(%v, %v) = %v", a, b, i != j)
			}
		}
	}
}

// 5.2: the chapter's examples among them.
func TestCheck(t *testing.T) {
	if got := ask(api.Program{Funcs: rets(1)}); got != (answer{}) {
		t.Errorf("of a function of one Return Check answered %v", got)
	}
	if got := ask(api.Program{Funcs: [][]api.Node{{{Kind: api.Call}}}}); got != (answer{0, 0, api.ErrRound}) {
		t.Errorf("of a function that calls itself Check answered %v", got)
	}
	for _, p := range []api.Program{
		every(),
		{Globals: 16, Locks: 16, Slots: 8, Funcs: rets(16)},
		{Globals: 16, Funcs: rets(1)}, {Locks: 16, Funcs: rets(1)}, {Slots: 8, Funcs: rets(1)},
		{Funcs: [][]api.Node{long(64)}}, {Funcs: [][]api.Node{{{}}}},
		{Funcs: [][]api.Node{calls(1, 2), calls(2, 2), ret()}}, {Funcs: [][]api.Node{ret(), calls(0), calls(1, 0)}},
		{Slots: 1, Funcs: [][]api.Node{{{Kind: api.Spawn, Next: 0}}}}, // it begins itself, but calls nothing
		{Slots: 1, Funcs: [][]api.Node{calls(1), {{Kind: api.Spawn, Next: 1}, {Kind: api.Return}}}},
		{Globals: 1, Locks: 1, Slots: 1, Funcs: [][]api.Node{{{Kind: api.Read}}, {{Kind: api.Lock}}, {{Kind: api.Join}}}}, // numbers that aren't functions
	} {
		if got := ask(p); got != (answer{}) {
			t.Errorf("Check(%v) = %v", p, got)
		}
	}
}

// 5.2: what is wrong with the program as a whole.
func TestCheckOfCounts(t *testing.T) {
	for _, c := range []struct {
		p api.Program
		e api.Errno
	}{
		{api.Program{}, api.ErrArg},
		{api.Program{Funcs: [][]api.Node{}}, api.ErrArg},
		{api.Program{Globals: 1, Locks: 1, Slots: 1}, api.ErrArg},
		{api.Program{Globals: -1, Funcs: rets(1)}, api.ErrArg},
		{api.Program{Locks: -1, Funcs: rets(1)}, api.ErrArg},
		{api.Program{Slots: -1, Funcs: rets(1)}, api.ErrArg},
		{api.Program{Globals: math.MinInt, Funcs: rets(1)}, api.ErrArg},
		{api.Program{Locks: math.MinInt, Funcs: rets(1)}, api.ErrArg},
		{api.Program{Slots: math.MinInt, Funcs: rets(1)}, api.ErrArg},

		{api.Program{Globals: 17, Funcs: rets(1)}, api.ErrLong},
		{api.Program{Locks: 17, Funcs: rets(1)}, api.ErrLong},
		{api.Program{Slots: 9, Funcs: rets(1)}, api.ErrLong},
		{api.Program{Funcs: rets(17)}, api.ErrLong},
		{api.Program{Funcs: make([][]api.Node, 17)}, api.ErrLong},
		{api.Program{Funcs: rets(300)}, api.ErrLong},
		{api.Program{Globals: math.MaxInt, Funcs: rets(1)}, api.ErrLong},
		{api.Program{Locks: 1 << 32, Funcs: rets(1)}, api.ErrLong},
		{api.Program{Slots: math.MaxInt, Funcs: rets(1)}, api.ErrLong},

		// a count below 0, or no function, ahead of what there is too much of
		{api.Program{Globals: 17, Locks: -1, Funcs: rets(1)}, api.ErrArg},
		{api.Program{Globals: 17, Slots: -1, Funcs: rets(1)}, api.ErrArg},
		{api.Program{Globals: -1, Locks: 17, Funcs: rets(1)}, api.ErrArg},
		{api.Program{Locks: 17, Slots: -1, Funcs: rets(17)}, api.ErrArg},
		{api.Program{Globals: 17, Locks: 17, Slots: 9}, api.ErrArg},
		{api.Program{Slots: 9}, api.ErrArg},

		// the whole, ahead of its functions
		{api.Program{Globals: -1, Funcs: [][]api.Node{nil}}, api.ErrArg},
		{api.Program{Locks: -1, Funcs: [][]api.Node{long(65)}}, api.ErrArg},
		{api.Program{Slots: 9, Funcs: [][]api.Node{nil}}, api.ErrLong},
		{api.Program{Locks: 17, Funcs: [][]api.Node{{{Kind: 99}}}}, api.ErrLong},
		{api.Program{Globals: 17, Funcs: [][]api.Node{{{Kind: api.Call}}}}, api.ErrLong},
		{api.Program{Funcs: append([][]api.Node{{{Kind: api.Call}}}, rets(16)...)}, api.ErrLong},
	} {
		if got := ask(c.p); got != (answer{-1, -1, c.e}) {
			t.Errorf("Check(%v) = %v, not -1, -1, %d", c.p, got, c.e)
		}
	}
}

// 5.2: what is wrong with a function, and which of several is met first.
func TestCheckOfFunctions(t *testing.T) {
	bad := api.Node{Kind: 10}
	for _, c := range []struct {
		funcs [][]api.Node
		want  answer
	}{
		{[][]api.Node{nil}, answer{0, -1, api.ErrArg}},
		{[][]api.Node{{}}, answer{0, -1, api.ErrArg}},
		{[][]api.Node{ret(), ret(), {}}, answer{2, -1, api.ErrArg}},
		{append(rets(15), nil), answer{15, -1, api.ErrArg}},
		{[][]api.Node{long(65)}, answer{0, -1, api.ErrLong}},
		{[][]api.Node{long(64), long(65)}, answer{1, -1, api.ErrLong}},
		{[][]api.Node{ret(), long(1000), ret()}, answer{1, -1, api.ErrLong}},
		{[][]api.Node{{bad}}, answer{0, 0, api.ErrForm}},
		{[][]api.Node{ret(), append(long(3), bad, bad)}, answer{1, 3, api.ErrForm}},
		{[][]api.Node{append(long(63), bad)}, answer{0, 63, api.ErrForm}},
		{[][]api.Node{{{Next: 1}}}, answer{0, 0, api.ErrForm}},
		{[][]api.Node{{{Next: 1}, {Next: 2}}}, answer{0, 1, api.ErrForm}},
		{[][]api.Node{long(9), {{Kind: api.Skip, Next: 8}}}, answer{1, 0, api.ErrForm}}, // each function has a size of its own
		{[][]api.Node{{{Kind: api.Call, Arg: 1}}}, answer{0, 0, api.ErrForm}},
		{[][]api.Node{{{Kind: api.Return}, {Kind: api.Call, Arg: -1}}}, answer{0, 1, api.ErrForm}},

		// the number of nodes, ahead of the nodes
		{[][]api.Node{append([]api.Node{bad}, long(64)...)}, answer{0, -1, api.ErrLong}},

		// all of a function, ahead of the next one
		{[][]api.Node{{bad}, nil}, answer{0, 0, api.ErrForm}},
		{[][]api.Node{{bad}, long(65)}, answer{0, 0, api.ErrForm}},
		{[][]api.Node{long(65), nil}, answer{0, -1, api.ErrLong}},
		{[][]api.Node{nil, long(65)}, answer{0, -1, api.ErrArg}},
		{[][]api.Node{ret(), nil, {bad}}, answer{1, -1, api.ErrArg}},
		{[][]api.Node{ret(), {bad}, {bad}}, answer{1, 0, api.ErrForm}},

		// all of that, ahead of calls that go round
		{[][]api.Node{calls(0), nil}, answer{1, -1, api.ErrArg}},
		{[][]api.Node{calls(0), long(65)}, answer{1, -1, api.ErrLong}},
		{[][]api.Node{calls(1), calls(0), {bad}}, answer{2, 0, api.ErrForm}},
		{[][]api.Node{{{Kind: api.Call}, bad}}, answer{0, 1, api.ErrForm}},
		{[][]api.Node{calls(0, 2)}, answer{0, 1, api.ErrForm}},
	} {
		if got := ask(api.Program{Funcs: c.funcs}); got != c.want {
			t.Errorf("Check of %v = %v, not %v", c.funcs, got, c.want)
		}
	}
}

// 5.2: calls that go round, and which of them is met first.
func TestCheckOfCalls(t *testing.T) {
	hidden := []api.Node{{Kind: api.Return}, {Kind: api.Return}, {Kind: api.Call, Arg: 0, Next: 0}} // it never comes to its call
	ring := [][]api.Node{}
	for f := range 16 {
		ring = append(ring, calls((f+1)%16))
	}
	chain := [][]api.Node{}
	for f := range 15 {
		chain = append(chain, calls(f+1))
	}
	for _, c := range []struct {
		funcs [][]api.Node
		want  answer
	}{
		{[][]api.Node{calls(0)}, answer{0, 0, api.ErrRound}},
		{[][]api.Node{hidden}, answer{0, 2, api.ErrRound}},
		{[][]api.Node{ret(), calls(1)}, answer{1, 0, api.ErrRound}}, // nobody comes to it
		{[][]api.Node{calls(1), calls(0)}, answer{0, 0, api.ErrRound}},
		{[][]api.Node{calls(1), hidden}, answer{0, 0, api.ErrRound}},
		{[][]api.Node{ret(), calls(2), calls(1)}, answer{1, 0, api.ErrRound}},
		{[][]api.Node{calls(1), calls(2), calls(0)}, answer{0, 0, api.ErrRound}},
		{[][]api.Node{calls(2), ret(), calls(1, 0)}, answer{0, 0, api.ErrRound}},
		{ring, answer{0, 0, api.ErrRound}},
		{append(slices.Clone(chain), ret()), answer{}},
		{append(slices.Clone(chain), calls(15)), answer{15, 0, api.ErrRound}},
		{append(slices.Clone(chain), calls(7)), answer{7, 0, api.ErrRound}},

		// a call of one that goes round, but not through the caller, doesn't
		{[][]api.Node{calls(1), calls(1)}, answer{1, 0, api.ErrRound}},
		{[][]api.Node{calls(1), calls(2), calls(1)}, answer{1, 0, api.ErrRound}},
		{[][]api.Node{calls(1, 2), ret(), calls(1, 3), calls(2)}, answer{2, 1, api.ErrRound}},
		{[][]api.Node{calls(1, 0), calls(1)}, answer{0, 1, api.ErrRound}},

		// the first one of the first function
		{[][]api.Node{calls(1, 1, 2, 2), ret(), calls(0)}, answer{0, 2, api.ErrRound}},
		{[][]api.Node{calls(0, 0)}, answer{0, 0, api.ErrRound}},
		{[][]api.Node{ret(), calls(0, 2), calls(1), calls(3)}, answer{1, 1, api.ErrRound}},
	} {
		p := api.Program{Funcs: c.funcs}
		if got := ask(p); got != c.want {
			t.Errorf("Check of %v = %v, not %v", c.funcs, got, c.want)
		}
		checkCheck(t, p)
	}
}

// 5.2: programs of each count and length, up to above what may be.
func TestCheckAtTheLimits(t *testing.T) {
	for _, n := range edges() {
		checkCheck(t, api.Program{Globals: n, Funcs: rets(1)})
		checkCheck(t, api.Program{Locks: n, Funcs: rets(1)})
		checkCheck(t, api.Program{Slots: n, Funcs: rets(1)})
		for _, m := range edges() {
			checkCheck(t, api.Program{Globals: n, Locks: m, Funcs: rets(1)})
			checkCheck(t, api.Program{Locks: n, Slots: m, Funcs: rets(1)})
			checkCheck(t, api.Program{Globals: n, Slots: m, Funcs: nil})
		}
	}
	for n := range 70 {
		checkCheck(t, api.Program{Funcs: rets(n)})
		checkCheck(t, api.Program{Funcs: [][]api.Node{long(n)}})
		checkCheck(t, api.Program{Funcs: append(rets(15), long(n))})
	}
}

// 5.2: each field of each node of a program that may be, at each edge.
func TestCheckOfEachField(t *testing.T) {
	p := every()
	for f, l := range p.Funcs {
		for i, n := range l {
			for _, x := range append(edges(), 5, 6, 10, 11) {
				for _, m := range []api.Node{
					{Kind: x, Arg: n.Arg, Next: n.Next, Alt: n.Alt},
					{Kind: n.Kind, Arg: x, Next: n.Next, Alt: n.Alt},
					{Kind: n.Kind, Arg: n.Arg, Next: x, Alt: n.Alt},
					{Kind: n.Kind, Arg: n.Arg, Next: n.Next, Alt: x},
				} {
					q := copied(p)
					q.Funcs[f][i] = m
					checkCheck(t, q)
				}
			}
		}
	}
}

// 5.2: programs with several things wrong.
func TestCheckOfManyPrograms(t *testing.T) {
	x := uint32(5)
	pick := func(n int) int {
		x = x*1664525 + 1013904223
		return int(x>>8) % n
	}
	met := map[api.Errno]int{}
	for range 200000 {
		p := api.Program{Globals: pick(3), Locks: pick(3), Slots: pick(3)}
		for range pick(5) {
			l := []api.Node{}
			for range pick(9) / 2 {
				l = append(l, api.Node{Kind: []int{0, 7, 7, 8, 9}[pick(5)]})
			}
			p.Funcs = append(p.Funcs, l)
		}
		for _, l := range p.Funcs {
			for i := range l {
				if l[i].Kind == api.Call {
					l[i].Arg = pick(len(p.Funcs))
				}
				if pick(12) == 0 {
					l[i] = api.Node{Kind: pick(12) - 1, Arg: pick(4) - 1, Next: pick(4) - 1, Alt: pick(3) - 1}
				}
			}
		}
		checkCheck(t, p)
		met[ask(p).e]++
	}
	for _, e := range []api.Errno{api.OK, api.ErrArg, api.ErrForm, api.ErrRound} {
		if met[e] < 1000 {
			t.Errorf("Check answered %d only %d times", e, met[e])
		}
	}
}

// 5.1, 5.2: what is handed in isn't changed, spare room included.
func TestNothingIsChanged(t *testing.T) {
	for _, p := range []api.Program{every(), {Globals: 17, Funcs: rets(2)}, {Funcs: [][]api.Node{calls(1), calls(0)}}, {Funcs: [][]api.Node{{{Kind: 10}}, nil}}} {
		q, had := copied(p), copied(p)
		spare := append(q.Funcs, nil)
		for f, l := range q.Funcs {
			q.Funcs[f] = append(l, api.Node{Kind: 77})[:len(l)]
		}
		Check(q)
		Same(q, p)
		Same(p, q)
		May(q, api.Node{Kind: api.Call}, 9)
		if !Same(q, had) || !Same(p, had) || spare[len(q.Funcs)] != nil {
			t.Errorf("%v became %v", had, q)
		}
		for f, l := range q.Funcs {
			if l[:len(l)+1][len(l)] != (api.Node{Kind: 77}) {
				t.Errorf("what is behind function %d was changed", f)
			}
		}
	}
}

// ordered tells whether functions can be put in an order in which each stands behind those that it calls.
func ordered(p api.Program) bool {
	done := map[int]bool{}
	for range p.Funcs {
		for f := range p.Funcs {
			if !slices.ContainsFunc(callsOf(p, f), func(g int) bool { return !done[g] }) {
				done[f] = true
			}
		}
	}
	return len(done) == len(p.Funcs)
}

// 5.3: of all ways in which four functions may call each other, those that can be put in order may be, and no others.
func TestCallsEnd(t *testing.T) {
	may := 0
	for ways := range 1 << 16 {
		p := api.Program{}
		for f := range 4 {
			l := []int{}
			for g := range 4 {
				if ways>>(4*f+g)&1 == 1 {
					l = append(l, g)
				}
			}
			p.Funcs = append(p.Funcs, calls(l...))
		}
		checkCheck(t, p)
		if ok := ask(p).e == api.OK; ok != ordered(p) {
			t.Fatalf("Check(%v) = %v", p, ask(p))
		} else if ok {
			may++
		}
	}
	if may != 543 { // how many directed graphs of four nodes have no round
		t.Errorf("%d ways may be", may)
	}
}

// 5.3: of programs of sixteen functions, too.
func TestCallsOfManyFunctionsEnd(t *testing.T) {
	x := uint32(3)
	pick := func(n int) int {
		x = x*1664525 + 1013904223
		return int(x>>8) % n
	}
	may := 0
	for range 3000 {
		p := api.Program{}
		for range 16 {
			l := []int{}
			for range pick(3) {
				l = append(l, pick(16))
			}
			p.Funcs = append(p.Funcs, calls(l...))
		}
		for range pick(30) { // calls of a round are taken away, one by one
			if got := ask(p); got.e == api.ErrRound {
				p.Funcs[got.f][got.n] = api.Node{Next: got.n + 1}
			}
			checkCheck(t, p)
			if ok := ask(p).e == api.OK; ok != ordered(p) {
				t.Fatalf("Check(%v) = %v", p, ask(p))
			} else if ok {
				may++
			}
		}
	}
	if may < 1000 {
		t.Errorf("only %d programs may be", may)
	}
}
