package graph

import (
	"math"
	"slices"
	"testing"

	"alibi/api"
	"alibi/prog"
)

// dice are numbers that follow a rule, but look as if they didn't.
type dice uint32

// below answers the next number below n.
func (d *dice) below(n int) int {
	*d = *d*1664525 + 1013904223
	return int(*d>>8) % n
}

// numbers are such as may be ids, functions or nodes, or become such, if bits of them are lost.
func numbers() []int {
	return []int{
		math.MinInt, math.MinInt + 1, math.MinInt32, -1 << 32, -65, -64, -33, -32, -31, -2, -1,
		0, 1, 2, 3, 4, 15, 16, 17, 30, 31, 32, 33, 63, 64, 65, 255, 256, 257,
		1 << 31, 1<<32 - 1, 1 << 32, 1<<32 + 1, math.MaxInt - 1, math.MaxInt,
	}
}

// mask answers the set of some ids.
func mask(ids ...int) uint32 {
	var m uint32
	for _, id := range ids {
		m |= 1 << id
	}
	return m
}

// calls is a function that calls others, one behind the other, and returns.
func calls(l ...int) []api.Node {
	var nodes []api.Node
	for i, f := range l {
		nodes = append(nodes, api.Node{Kind: api.Call, Arg: f, Next: i + 1})
	}
	return append(nodes, api.Node{Kind: api.Return})
}

// callers is a program of functions, each of which calls others.
func callers(l ...[]int) api.Program {
	var p api.Program
	for _, c := range l {
		p.Funcs = append(p.Funcs, calls(c...))
	}
	return p
}

// spawns is a program of one slot and functions, each of which begins others.
func spawns(l ...[]int) api.Program {
	p := callers(l...)
	p.Slots = 1
	for _, nodes := range p.Funcs {
		for i := range nodes {
			if nodes[i].Kind == api.Call {
				nodes[i].Kind = api.Spawn
			}
		}
	}
	return p
}

// namedByHand tells whether a node of a kind, of some of the functions, names a number.
func namedByHand(funcs [][]api.Node, kind, n int) bool {
	for _, l := range funcs {
		for _, node := range l {
			if node.Kind == kind && node.Arg == n {
				return true
			}
		}
	}
	return false
}

// calleesByHand answers what Callees should.
func calleesByHand(p api.Program) []uint32 {
	var l []uint32
	for f := range p.Funcs {
		var m uint32
		for id := range 32 {
			if namedByHand(p.Funcs[f:f+1], 7, id) {
				m |= 1 << id
			}
		}
		l = append(l, m)
	}
	return l
}

// begunByHand answers what Begun should.
func begunByHand(p api.Program) uint32 {
	var m uint32
	for id := range 32 {
		if namedByHand(p.Funcs, 5, id) {
			m |= 1 << id
		}
	}
	return m
}

// comesByHand tells of each function to which ones it comes by calls: calls of calls are added till nothing more comes of them.
func comesByHand(p api.Program) [][]bool {
	n := len(p.Funcs)
	comes := make([][]bool, n)
	for f := range comes {
		comes[f] = make([]bool, n)
	}
	for more := true; more; {
		more = false
		for f, l := range p.Funcs {
			for _, node := range l {
				if node.Kind != 7 || node.Arg < 0 || node.Arg >= n {
					continue
				}
				for to := range n {
					if (to == node.Arg || comes[node.Arg][to]) && !comes[f][to] {
						comes[f][to] = true
						more = true
					}
				}
			}
		}
	}
	return comes
}

// reachByHand answers what Reach should, by what comesByHand answered.
func reachByHand(comes [][]bool, from uint32) uint32 {
	var m uint32
	for f := range comes {
		if f >= 32 || from>>f&1 == 0 {
			continue
		}
		m |= 1 << f
		for to, come := range comes[f] {
			if come && to < 32 {
				m |= 1 << to
			}
		}
	}
	return m
}

// orderByHand answers the order of a program's functions: again and again the least one that isn't there, but all that it calls is.
func orderByHand(p api.Program) []int {
	var l []int
	for len(l) < len(p.Funcs) {
		for f := range p.Funcs {
			could := !slices.Contains(l, f)
			for _, n := range p.Funcs[f] {
				if n.Kind == 7 && !slices.Contains(l, n.Arg) {
					could = false
				}
			}
			if could {
				l = append(l, f)
				break
			}
		}
	}
	return l
}

// edgesByHand answers what Edges should.
func edgesByHand(l []api.Node) []Edge {
	var edges []Edge
	for i, n := range l {
		if n.Kind != 9 {
			edges = append(edges, Edge{i, n.Next})
		}
		if n.Kind == 8 {
			edges = append(edges, Edge{i, n.Alt})
		}
	}
	return edges
}

// afterByHand answers what After should: edges are gone along, all of them, till nothing more comes of it.
func afterByHand(l []api.Node, from []int) []bool {
	come := make([]bool, len(l))
	for more := true; more; {
		more = false
		for _, e := range edgesByHand(l) {
			if e.To >= 0 && e.To < len(l) && !come[e.To] && (come[e.From] || slices.Contains(from, e.From)) {
				come[e.To] = true
				more = true
			}
		}
	}
	return come
}

// checkCalls holds all that is told of a program's calls against what the chapter's words tell.
func checkCalls(t *testing.T, p api.Program, froms ...uint32) {
	t.Helper()
	if got, want := Callees(p), calleesByHand(p); !slices.Equal(got, want) {
		t.Fatalf("Callees(%v) = %b, not %b", p, got, want)
	}
	if got, want := Begun(p), begunByHand(p); got != want {
		t.Fatalf("Begun(%v) = %b, not %b", p, got, want)
	}
	comes := comesByHand(p)
	for _, from := range froms {
		if got, want := Reach(p, from), reachByHand(comes, from); got != want {
			t.Fatalf("Reach(%v, %b) = %b, not %b", p, from, got, want)
		}
	}
	checkOrder(t, p)
}

// checkOrder holds the order of a program against what the chapter's words tell.
func checkOrder(t *testing.T, p api.Program) {
	t.Helper()
	got, e := Order(p)
	var want []int
	_, _, wrong := prog.Check(p)
	if wrong == api.OK {
		want = orderByHand(p)
	}
	if e != wrong || !slices.Equal(got, want) {
		t.Fatalf("Order(%v) = %v, %d, not %v, %d", p, got, e, want, wrong)
	}
}

// checkNodes holds all that is told of a function's edges against what the chapter's words tell.
func checkNodes(t *testing.T, l []api.Node, froms ...[]int) {
	t.Helper()
	if got, want := Edges(l), edgesByHand(l); !slices.Equal(got, want) {
		t.Fatalf("Edges(%v) = %v, not %v", l, got, want)
	}
	for _, from := range froms {
		if got, want := After(l, from), afterByHand(l, from); !slices.Equal(got, want) {
			t.Fatalf("After(%v, %v) = %v, not %v", l, from, got, want)
		}
	}
}

// 6.1
func TestCallees(t *testing.T) {
	for _, c := range []struct {
		p    api.Program
		want []uint32
	}{
		{api.Program{}, nil},
		{api.Program{Funcs: [][]api.Node{}}, nil},
		{api.Program{Funcs: [][]api.Node{nil}}, []uint32{0}},
		{api.Program{Funcs: [][]api.Node{{}, nil, calls(0)}}, []uint32{0, 0, 1}},
		{callers([]int{2, 1}, nil, nil), []uint32{mask(1, 2), 0, 0}},
		{callers([]int{0}), []uint32{1}},
		{callers([]int{1}, []int{0}), []uint32{2, 1}},
		{callers([]int{1, 1, 1}, nil), []uint32{2, 0}},
		{callers([]int{31, 0}), []uint32{mask(0, 31)}},     // a function that there is not
		{callers([]int{32, -1, 33, 5}), []uint32{mask(5)}}, // what is no id
		{callers([]int{64}, []int{-32}), []uint32{0, 0}},   // nor a shift that wraps round
		{spawns([]int{1}, []int{0}), []uint32{0, 0}},       // who begins one doesn't call it
		{api.Program{Globals: -1, Slots: 99, Funcs: [][]api.Node{calls(1)}}, []uint32{2}},
	} {
		if got := Callees(c.p); !slices.Equal(got, c.want) {
			t.Errorf("Callees(%v) = %b, not %b", c.p, got, c.want)
		}
	}
}

// 6.1
func TestBegun(t *testing.T) {
	for _, c := range []struct {
		p    api.Program
		want uint32
	}{
		{api.Program{}, 0},
		{api.Program{Funcs: [][]api.Node{nil, {}}}, 0},
		{callers([]int{1}, nil), 0}, // who calls one doesn't begin it
		{spawns([]int{2, 1}, nil, nil), mask(1, 2)},
		{spawns([]int{0}), 1},
		{spawns(nil, []int{3, 3}, []int{0}), mask(0, 3)}, // of each function, called or not
		{spawns([]int{31, 5}), mask(5, 31)},              // functions that there are not
		{spawns([]int{32, -1}, []int{64, -32, 2}), mask(2)},
		{api.Program{Funcs: [][]api.Node{{{Kind: api.Return}, {Kind: api.Spawn, Arg: 4, Next: -7, Alt: 99}}}}, mask(4)},
	} {
		if got := Begun(c.p); got != c.want {
			t.Errorf("Begun(%v) = %b, not %b", c.p, got, c.want)
		}
	}
}

// 6.1: nodes of all kinds, each with each number.
func TestNamesOfEachKind(t *testing.T) {
	for _, kind := range append(numbers(), 5, 6, 7, 8, 9, 10, 256+5, 256+7, 1<<32+5, 1<<32+7) {
		for _, arg := range numbers() {
			n := api.Node{Kind: kind, Arg: arg}
			var call, begin uint32
			if arg >= 0 && arg < 32 && kind == 7 {
				call = 1 << arg
			}
			if arg >= 0 && arg < 32 && kind == 5 {
				begin = 1 << arg
			}
			p := api.Program{Funcs: [][]api.Node{{n}}}
			if got := Callees(p); !slices.Equal(got, []uint32{call}) {
				t.Errorf("Callees of %v = %b, not %b", n, got, call)
			}
			if got := Begun(p); got != begin {
				t.Errorf("Begun of %v = %b, not %b", n, got, begin)
			}
		}
	}
}

// 6.1
func TestReach(t *testing.T) {
	all := uint32(math.MaxUint32)
	forest := callers([]int{1, 3}, nil, []int{3}, []int{4}, nil)
	ring := callers([]int{1}, []int{2}, []int{0}, []int{0})
	for _, c := range []struct {
		p          api.Program
		from, want uint32
	}{
		{api.Program{}, 0, 0},
		{api.Program{}, all, 0},
		{api.Program{Funcs: [][]api.Node{nil, nil}}, all, 3},
		{forest, 0, 0},
		{forest, 1, mask(0, 1, 3, 4)},
		{forest, 2, mask(1)},
		{forest, 4, mask(2, 3, 4)},
		{forest, mask(1, 2), mask(1, 2, 3, 4)},
		{forest, all, 31},
		{forest, mask(5), 0}, // ids that there are not
		{forest, all &^ 31, 0},
		{forest, mask(31, 3), mask(3, 4)},
		{ring, 1, 7},
		{ring, 4, 7},
		{ring, 8, 15},
		{callers([]int{0}), 1, 1},
		{callers([]int{1, 1}, nil), 1, 3},
		{callers([]int{2, 31, -1, 32, 99, 1}, nil), 1, 3}, // functions that there are not
		{callers([]int{math.MaxInt, math.MinInt, 1<<32 + 1}, nil), 1, 1},
		{spawns([]int{1}, []int{2}, nil), 1, 1}, // who begins one doesn't come to it by calls
		{api.Program{Globals: -1, Funcs: [][]api.Node{{{Kind: api.Return}, {Kind: api.Call, Arg: 1, Next: -1}}, nil}}, 1, 3},
	} {
		if got := Reach(c.p, c.from); got != c.want {
			t.Errorf("Reach(%v, %b) = %b, not %b", c.p, c.from, got, c.want)
		}
	}
}

// 6.1: programs of 31, 32, 33 and more functions, each of which calls the next one.
func TestReachOfManyFunctions(t *testing.T) {
	for _, n := range []int{16, 17, 31, 32, 33, 64, 65} {
		var p api.Program
		for f := range n {
			p.Funcs = append(p.Funcs, calls((f+1)%n))
		}
		there := uint32(1<<min(n, 32) - 1)
		for id := range 32 {
			want := there
			if id >= n {
				want = 0
			}
			if got := Reach(p, 1<<id); got != want {
				t.Errorf("Reach of %d, from %d = %b, not %b", n, id, got, want)
			}
		}
		p.Funcs[n-1] = calls()
		for id := range min(n, 32) {
			if got, want := Reach(p, 1<<id), there&^(1<<id-1); got != want {
				t.Errorf("Reach of a row of %d, from %d = %b, not %b", n, id, got, want)
			}
		}
	}
	// by way of a function whose number is no id
	p := api.Program{Funcs: make([][]api.Node, 41)}
	p.Funcs[3], p.Funcs[40] = calls(40), calls(9, 39)
	if got := Reach(p, 1<<3); got != mask(3, 9) {
		t.Errorf("Reach by way of 40 = %b", got)
	}
}

// 6.1, 6.2, 6.4: all ways in which up to three functions may call each other, from all sets.
func TestEachWayOfCalls(t *testing.T) {
	for n := range 4 {
		for way := range 1 << (n * n) {
			p := api.Program{Funcs: make([][]api.Node, n)}
			for f := range n {
				var l []int
				for to := range n {
					if way>>(f*n+to)&1 == 1 {
						l = append(l, to)
					}
				}
				p.Funcs[f] = calls(l...)
			}
			for from := range uint32(16) {
				checkCalls(t, p, from)
			}
			checkCalls(t, p, 1<<31, math.MaxUint32)
		}
	}
}

// 6.1, 6.2: many programs of many functions, with what may not be among them.
func TestManyPrograms(t *testing.T) {
	d := dice(6)
	for range 3000 {
		count := d.below(36)
		p := api.Program{Slots: d.below(2), Funcs: make([][]api.Node, count)}
		for f := range p.Funcs {
			for range d.below(4) {
				n := api.Node{Kind: []int{api.Call, api.Call, api.Spawn, d.below(11)}[d.below(4)], Arg: d.below(max(count, 1))}
				if d.below(5) == 0 {
					n.Arg = numbers()[d.below(len(numbers()))]
				}
				p.Funcs[f] = append(p.Funcs[f], n)
			}
		}
		checkCalls(t, p, 0, 1<<d.below(32), 1<<d.below(32)|1<<d.below(32), math.MaxUint32)
	}
}

// 6.2: the chapter's example, and orders where several could come next.
func TestOrder(t *testing.T) {
	for _, c := range []struct {
		p    api.Program
		want []int
	}{
		{callers([]int{2, 1}, nil, nil), []int{1, 2, 0}},
		{callers(nil), []int{0}},
		{callers(nil, nil, nil), []int{0, 1, 2}},
		{callers([]int{1}, []int{2}, nil), []int{2, 1, 0}},
		{callers([]int{3}, nil, nil, nil), []int{1, 2, 3, 0}},
		{callers([]int{1}, nil, nil, nil), []int{1, 0, 2, 3}}, // the least one, as soon as it could come
		{callers(nil, []int{3}, nil, nil), []int{0, 2, 3, 1}},
		{callers([]int{2}, []int{3}, nil, nil), []int{2, 0, 3, 1}},
		{callers([]int{3}, []int{2}, nil, nil), []int{2, 1, 3, 0}},
		{callers([]int{1, 1, 1}, nil), []int{1, 0}}, // one that is called more than once
		{callers([]int{2, 1, 2, 1}, []int{2, 2}, nil), []int{2, 1, 0}},
		{callers([]int{4}, []int{4}, []int{4}, []int{4}, nil), []int{4, 0, 1, 2, 3}},
		{callers([]int{1, 2, 3, 4}, nil, nil, nil, nil), []int{1, 2, 3, 4, 0}},
		{callers(nil, []int{0}, []int{1}, []int{2}), []int{0, 1, 2, 3}},
		{callers([]int{5}, []int{5}, nil, []int{2, 0}, []int{1}, nil), []int{2, 5, 0, 1, 3, 4}},
		{spawns([]int{1}, []int{0}), []int{0, 1}}, // who begins one doesn't call it
		{spawns([]int{2, 1}, nil, nil), []int{0, 1, 2}},
		{api.Program{Globals: 4, Funcs: [][]api.Node{{{Kind: api.Read, Arg: 3}}, {{Kind: api.Write, Arg: 0}}}}, []int{0, 1}},
	} {
		got, e := Order(c.p)
		if e != api.OK || !slices.Equal(got, c.want) {
			t.Errorf("Order(%v) = %v, %d, not %v", c.p, got, e, c.want)
		}
	}
}

// 6.2, 6.4: as many functions as there may be, that call in all kinds of ways.
func TestOrderOfManyFunctions(t *testing.T) {
	d := dice(62)
	for range 5000 {
		count := 1 + d.below(16)
		rank := make([]int, count) // who is called has a greater one
		for f := range rank {
			rank[f] = f
		}
		for f := range rank {
			g := f + d.below(count-f)
			rank[f], rank[g] = rank[g], rank[f]
		}
		many := 1 + d.below(6)
		p := api.Program{Slots: 1}
		for f := range count {
			var l []int
			for g := range count {
				if rank[g] > rank[f] && d.below(many) == 0 {
					l = append(l, g, g)
				}
			}
			p.Funcs = append(p.Funcs, calls(l...))
		}
		if _, _, e := prog.Check(p); e != api.OK {
			t.Fatalf("%v may not be: %d", p, e)
		}
		checkOrder(t, p)
	}
}

// 6.2: which of chapter 5's faults is met, and nothing beside it.
func TestOrderOfWhatMayNotBe(t *testing.T) {
	one := calls()
	for _, c := range []struct {
		p    api.Program
		want api.Errno
	}{
		{api.Program{}, api.ErrArg},
		{api.Program{Globals: -1, Funcs: [][]api.Node{one}}, api.ErrArg},
		{api.Program{Locks: -1, Funcs: [][]api.Node{one}}, api.ErrArg},
		{api.Program{Slots: -1, Funcs: [][]api.Node{one}}, api.ErrArg},
		{api.Program{Funcs: [][]api.Node{one, nil}}, api.ErrArg},
		{api.Program{Globals: 17, Funcs: [][]api.Node{one}}, api.ErrLong},
		{api.Program{Locks: 17, Funcs: [][]api.Node{one}}, api.ErrLong},
		{api.Program{Slots: 9, Funcs: [][]api.Node{one}}, api.ErrLong},
		{callers(make([][]int, 17)...), api.ErrLong},
		{callers(make([][]int, 32)...), api.ErrLong},
		{callers(make([]int, 64)), api.ErrLong},
		{api.Program{Funcs: [][]api.Node{{{Kind: 10}}}}, api.ErrForm},
		{api.Program{Funcs: [][]api.Node{{{Kind: api.Spawn}}}}, api.ErrForm},
		{callers([]int{1}), api.ErrForm},
		{callers([]int{-1}), api.ErrForm},
		{callers([]int{0}), api.ErrRound},
		{callers([]int{1}, []int{0}), api.ErrRound},
		{callers(nil, nil, []int{3}, []int{2}), api.ErrRound},
		{callers([]int{1}, []int{1}), api.ErrRound},

		// several of them
		{api.Program{Globals: -1, Locks: 17}, api.ErrArg},
		{callers([]int{0}, []int{2}), api.ErrForm},
		{api.Program{Funcs: [][]api.Node{{{Kind: api.Call}}, nil}}, api.ErrArg},
		{api.Program{Funcs: [][]api.Node{{{Kind: 10}}, nil}}, api.ErrForm},
	} {
		l, e := Order(c.p)
		if e != c.want || len(l) != 0 {
			t.Errorf("Order(%v) = %v, %d, not nothing, %d", c.p, l, e, c.want)
		}
	}
}

// 6.3
func TestEdges(t *testing.T) {
	for _, c := range []struct {
		l    []api.Node
		want []Edge
	}{
		{nil, nil},
		{[]api.Node{}, nil},
		{[]api.Node{{Kind: api.Return}}, nil},
		{[]api.Node{{Kind: api.Return, Arg: 1, Next: 2, Alt: 3}}, nil},
		{[]api.Node{{}}, []Edge{{0, 0}}},
		{[]api.Node{{Kind: api.Skip, Next: 1, Alt: 7}, {Kind: api.Return}}, []Edge{{0, 1}}},
		{[]api.Node{{Kind: api.Branch, Next: 1, Alt: 2}}, []Edge{{0, 1}, {0, 2}}},
		{[]api.Node{{Kind: api.Branch, Next: 2, Alt: 1}}, []Edge{{0, 2}, {0, 1}}}, // first that to Next
		{[]api.Node{{Kind: api.Branch, Next: 5, Alt: 5}}, []Edge{{0, 5}, {0, 5}}}, // two ways that are alike
		{[]api.Node{{Kind: api.Spawn, Next: 2, Alt: 1}, {Kind: api.Branch, Alt: 3}, {Kind: api.Call, Arg: 4, Next: 2}}, []Edge{{0, 2}, {1, 0}, {1, 3}, {2, 2}}},
		{[]api.Node{{Kind: api.Return}, {Next: 0}, {Kind: api.Return}, {Next: 1}}, []Edge{{1, 0}, {3, 1}}},
		{[]api.Node{{Next: -1}, {Next: 99}, {Kind: api.Branch, Next: math.MinInt, Alt: math.MaxInt}}, []Edge{{0, -1}, {1, 99}, {2, math.MinInt}, {2, math.MaxInt}}}, // to places that there aren't
	} {
		if got := Edges(c.l); !slices.Equal(got, c.want) {
			t.Errorf("Edges(%v) = %v, not %v", c.l, got, c.want)
		}
	}
}

// 6.3
func TestAfter(t *testing.T) {
	const no, yes = false, true
	ret := api.Node{Kind: api.Return}
	row := []api.Node{{Next: 1}, {Next: 2}, {Next: 3}, ret}
	loop := []api.Node{{Next: 1}, {Kind: api.Branch, Next: 2, Alt: 4}, {Next: 3}, {Next: 1}, ret}
	for _, c := range []struct {
		l    []api.Node
		from []int
		want []bool
	}{
		{nil, nil, nil},
		{nil, []int{0, -1, 5}, nil},
		{[]api.Node{}, []int{0}, nil},
		{row, nil, []bool{no, no, no, no}},
		{row, []int{}, []bool{no, no, no, no}},
		{row, []int{0}, []bool{no, yes, yes, yes}}, // not the place itself
		{row, []int{2}, []bool{no, no, no, yes}},
		{row, []int{3}, []bool{no, no, no, no}}, // a Return
		{row, []int{2, 0}, []bool{no, yes, yes, yes}},
		{row, []int{2, 2, 2}, []bool{no, no, no, yes}},
		{row, []int{-1, 4, 64, math.MinInt, math.MaxInt, 1 << 32}, []bool{no, no, no, no}},
		{row, []int{-1, 4, 1, 1 << 40}, []bool{no, no, yes, yes}},
		{loop, []int{0}, []bool{no, yes, yes, yes, yes}},
		{loop, []int{2}, []bool{no, yes, yes, yes, yes}}, // the place itself, where it is come to again
		{loop, []int{4}, []bool{no, no, no, no, no}},
		{[]api.Node{{}}, []int{0}, []bool{yes}}, // at itself
		{[]api.Node{{Kind: api.Branch}}, []int{0}, []bool{yes}},
		{[]api.Node{{Kind: api.Branch, Next: 1, Alt: 1}, ret}, []int{0}, []bool{no, yes}},
		{[]api.Node{{Kind: api.Branch, Next: 2, Alt: 1}, ret, ret}, []int{0}, []bool{no, yes, yes}},
		{[]api.Node{{Kind: api.Branch, Next: -1, Alt: 1}, {Next: 2}}, []int{0}, []bool{no, yes}}, // edges to places that there aren't
		{[]api.Node{{Kind: api.Branch, Next: 1, Alt: 2}, {Next: math.MinInt}}, []int{0}, []bool{no, yes}},
		{[]api.Node{{Next: 2}, {Next: -1}}, []int{0, 1, 2, -1}, []bool{no, no}},
		{[]api.Node{{Kind: api.Return, Next: 1, Alt: 1}, ret}, []int{0}, []bool{no, no}},
		{[]api.Node{{Kind: api.Spawn, Next: 1, Alt: 2}, ret, ret}, []int{0}, []bool{no, yes, no}}, // Alt is a slot
		{[]api.Node{{Kind: 77, Next: 1, Alt: 2}, ret, ret}, []int{0}, []bool{no, yes, no}},
	} {
		if got := After(c.l, c.from); !slices.Equal(got, c.want) {
			t.Errorf("After(%v, %v) = %v, not %v", c.l, c.from, got, c.want)
		}
	}
}

// 6.3: all functions of up to two nodes that go on anywhere, at places that there aren't, too, from all rows of up to two places.
func TestEachFunction(t *testing.T) {
	var nodes []api.Node
	for next := -1; next <= 3; next++ {
		nodes = append(nodes, api.Node{Kind: api.Write, Arg: 1, Next: next, Alt: 1}, api.Node{Kind: api.Return, Next: next})
		for alt := -1; alt <= 3; alt++ {
			nodes = append(nodes, api.Node{Kind: api.Branch, Next: next, Alt: alt})
		}
	}
	froms := [][]int{nil}
	for a := -1; a <= 3; a++ {
		froms = append(froms, []int{a})
		for b := -1; b <= 3; b++ {
			froms = append(froms, []int{a, b})
		}
	}
	checkNodes(t, nil, froms...)
	for _, a := range nodes {
		checkNodes(t, []api.Node{a}, froms...)
		for _, b := range nodes {
			checkNodes(t, []api.Node{a, b}, froms...)
		}
	}
}

// 6.3: many functions of up to 70 nodes.
func TestManyFunctions(t *testing.T) {
	d := dice(63)
	for range 2000 {
		l := make([]api.Node, d.below(70))
		place := func() int {
			if d.below(12) == 0 {
				return numbers()[d.below(len(numbers()))]
			}
			return d.below(len(l) + 1)
		}
		for i := range l {
			l[i] = api.Node{Kind: []int{api.Skip, api.Return, api.Branch, api.Branch, d.below(12) - 1}[d.below(5)], Arg: d.below(3), Next: place(), Alt: place()}
		}
		var from []int
		for range d.below(4) {
			from = append(from, place())
		}
		checkNodes(t, l, nil, from, numbers())
	}
}

// 6.4: each function is in the order once, behind those that it calls; and the order ends, whoever calls whom.
func TestOrderHasEachOnce(t *testing.T) {
	d := dice(64)
	for range 3000 {
		p := api.Program{Funcs: make([][]api.Node, 1+d.below(16))}
		for f := range p.Funcs {
			var l []int
			for range d.below(4) {
				l = append(l, d.below(len(p.Funcs)))
			}
			if d.below(3) > 0 { // mostly of those behind it, so that many may be
				for i := range l {
					l[i] = f + 1 + l[i]%max(1, len(p.Funcs)-f-1)
				}
			}
			p.Funcs[f] = calls(l...)
		}
		if l := p.Funcs[len(p.Funcs)-1]; l[0].Kind == api.Call {
			p.Funcs[len(p.Funcs)-1] = calls()
		}
		order, e := Order(p)
		if e != api.OK {
			continue
		}
		at := map[int]int{}
		for i, f := range order {
			at[f] = i
		}
		if len(order) != len(p.Funcs) || len(at) != len(p.Funcs) {
			t.Fatalf("Order(%v) = %v", p, order)
		}
		for f := range p.Funcs {
			for _, g := range p.Funcs[f] {
				if i, there := at[g.Arg]; g.Kind == api.Call && (!there || i >= at[f]) {
					t.Fatalf("Order(%v) = %v: %d is ahead of %d, that it calls", p, order, f, g.Arg)
				}
			}
		}
	}
}

// 6.4: what is come to from behind a node that is come to is come to.
func TestAfterGoesOn(t *testing.T) {
	d := dice(65)
	for range 3000 {
		l := make([]api.Node, 1+d.below(12))
		for i := range l {
			l[i] = api.Node{Kind: []int{api.Skip, api.Return, api.Branch}[d.below(3)], Next: d.below(len(l)), Alt: d.below(len(l))}
		}
		come := After(l, []int{d.below(len(l))})
		for at, is := range come {
			if !is {
				continue
			}
			for to, on := range After(l, []int{at}) {
				if on && !come[to] {
					t.Fatalf("%v: %d is come to, %d from behind it, but not come to", l, at, to)
				}
			}
		}
	}
}

// 6.1, 6.3: programs, functions and rows that are greater than any that may be end soon.
func TestGreatOnes(t *testing.T) {
	const n = 200000
	row := make([]api.Node, n)
	for i := range row {
		row[i] = api.Node{Kind: api.Branch, Next: i + 1, Alt: i / 2}
	}
	if l := Edges(row); len(l) != 2*n || l[2*n-1] != (Edge{n - 1, (n - 1) / 2}) {
		t.Errorf("Edges of %d nodes: %d", n, len(l))
	}
	from := make([]int, n)
	for i, come := range After(row, from) {
		if !come {
			t.Fatalf("the node %d isn't come to", i)
		}
	}
	p := api.Program{Funcs: make([][]api.Node, n)}
	for f := range p.Funcs {
		p.Funcs[f] = []api.Node{{Kind: api.Call, Arg: (f + n - 1) % n}}
	}
	if got := Reach(p, 1<<5); got != math.MaxUint32 { // round, by way of all others
		t.Errorf("Reach of %d functions = %b", n, got)
	}
	if l := Callees(p); len(l) != n || l[0] != 0 || l[1] != 1 || l[32] != 1<<31 || l[33] != 0 {
		t.Errorf("Callees of %d functions: %d", n, len(l))
	}
	if _, e := Order(p); e != api.ErrLong {
		t.Errorf("Order of %d functions: %d", n, e)
	}
}

// spare answers a list like another one, with room for more behind it, that isn't empty.
func spare[T any](l []T, filler T) []T {
	more := append(slices.Clone(l), filler, filler)
	return more[:len(l)]
}

// 6.1 to 6.3: what is handed in isn't changed, spare room included.
func TestNothingHandedInIsChanged(t *testing.T) {
	fresh := func() (api.Program, []int) {
		p := callers([]int{1, 2}, []int{2}, nil)
		p.Slots = 1
		p.Funcs[2] = []api.Node{{Kind: api.Spawn, Arg: 1, Next: 1}, {Kind: api.Branch, Next: 0, Alt: 1}}
		for f, l := range p.Funcs {
			p.Funcs[f] = spare(l, api.Node{Kind: 7, Arg: 2, Next: 1})
		}
		p.Funcs = spare(p.Funcs, []api.Node{{Kind: 7, Arg: 1}})
		return p, spare([]int{1, 0, 9}, 1)
	}
	p, from := fresh()
	want, wantFrom := fresh()
	Callees(p)
	Begun(p)
	Reach(p, 7)
	if _, e := Order(p); e != api.OK {
		t.Fatalf("the program may not be: %d", e)
	}
	Edges(p.Funcs[2])
	After(p.Funcs[2], from)
	p.Funcs, want.Funcs = p.Funcs[:cap(p.Funcs)], want.Funcs[:cap(want.Funcs)]
	if !slices.Equal(from[:cap(from)][:5], wantFrom[:cap(wantFrom)][:5]) || len(p.Funcs) != len(want.Funcs) {
		t.Error("what was handed in was changed")
	}
	for f, l := range p.Funcs {
		if !slices.Equal(l[:cap(l)], want.Funcs[f][:cap(want.Funcs[f])]) {
			t.Errorf("the function %d was changed", f)
		}
	}
}

// spoil fills a list, spare room included.
func spoil[T any](l []T, with T) {
	l = l[:cap(l)]
	for i := range l {
		l[i] = with
	}
}

// 6.1 to 6.3: what is handed out is new memory, spare room included.
func TestAnswersAreNewMemory(t *testing.T) {
	p := callers([]int{2, 1}, nil, nil)
	l := p.Funcs[0]
	callees, edges, after := Callees(p), Edges(l), After(l, []int{0})
	order, _ := Order(p)
	again, _ := Order(p)
	spoil(Callees(p), 99)
	spoil(Edges(l), Edge{99, 99})
	spoil(After(l, []int{0}), false)
	spoil(again, 99)
	if !slices.Equal(callees, []uint32{6, 0, 0}) || !slices.Equal(edges, []Edge{{0, 1}, {1, 2}}) ||
		!slices.Equal(after, []bool{false, true, true}) || !slices.Equal(order, []int{1, 2, 0}) {
		t.Errorf("answers share memory: %v, %v, %v, %v", callees, edges, after, order)
	}
	checkCalls(t, p, 1)
	checkNodes(t, l, []int{0})
}
