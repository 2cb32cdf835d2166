package wit

import (
	"bytes"
	"math"
	"slices"
	"testing"

	"alibi/api"
	"alibi/prog"
	"alibi/sem"
	"alibi/text"
)

// dice are numbers that follow a rule, but look as if they didn't.
type dice uint32

// below answers the next number below n.
func (d *dice) below(n int) int {
	*d = *d*1664525 + 1013904223
	return int(*d>>8) % n
}

// parsed answers the program of a text.
func parsed(t *testing.T, s string) api.Program {
	t.Helper()
	p, line, e := text.Parse(s)
	if e != api.OK {
		t.Fatalf("%q, line %d: %d", s, line, e)
	}
	return p
}

// picks answers picks, one for each number: of a thread, with Way from 8 on.
func picks(l ...int) []api.Pick {
	var x []api.Pick
	for _, n := range l {
		x = append(x, api.Pick{Who: n % 8, Way: n >= 8})
	}
	return x
}

// nowhere are numbers of no thread, and of no global.
func nowhere() []int {
	return []int{
		math.MinInt, math.MinInt + 1, math.MinInt32, -1 << 32, -256, -16, -8, -2, -1,
		16, 17, 31, 32, 255, 256, 257, 1 << 31, 1 << 32, 1<<32 + 1, math.MaxInt - 1, math.MaxInt,
	}
}

// refused are programs that may not be, each with chapter 5's error.
func refused() map[api.Errno][]api.Program {
	ret := []api.Node{{Kind: api.Return}}
	return map[api.Errno][]api.Program{
		api.ErrArg:   {{}, {Locks: -1, Funcs: [][]api.Node{ret}}, {Funcs: [][]api.Node{ret, nil}}},
		api.ErrLong:  {{Globals: 17, Funcs: [][]api.Node{ret}}, {Funcs: make([][]api.Node, 17)}, {Funcs: [][]api.Node{make([]api.Node, 65)}}},
		api.ErrForm:  {{Funcs: [][]api.Node{{{Kind: 10}}}}, {Funcs: [][]api.Node{ret, {{Next: 1}}}}, {Funcs: [][]api.Node{{{Kind: api.Write}}}}},
		api.ErrRound: {{Funcs: [][]api.Node{{{Kind: api.Call}}}}, {Funcs: [][]api.Node{ret, {{Kind: api.Call, Arg: 1}}}}},
	}
}

// alike tells whether two witnesses are.
func alike(v, w api.Witness) bool {
	return slices.Equal(v.Picks, w.Picks) && v.A == w.A && v.B == w.B && v.Global == w.Global
}

// isNone tells whether nothing is told of a witness.
func isNone(w api.Witness) bool { return alike(w, api.Witness{}) }

// copied answers a witness that shares no memory with another one, but is like it.
func copied(w api.Witness) api.Witness {
	w.Picks = append([]api.Pick{}, w.Picks...)
	return w
}

// wrongWith answers what Check should, by the chapter's words.
func wrongWith(w api.Witness) api.Errno {
	if len(w.Picks) > 4096 {
		return api.ErrLong
	}
	bad := w.A == w.B || w.A < 0 || w.A > 7 || w.B < 0 || w.B > 7 || w.Global < 0 || w.Global > 15
	for _, x := range w.Picks {
		bad = bad || x.Who < 0 || x.Who > 7
	}
	if bad {
		return api.ErrArg
	}
	return api.OK
}

// writeByHand answers the bytes of a witness that may be.
func writeByHand(w api.Witness) []byte {
	b, size := []byte{'a', 'l', 'w', '1'}, len(w.Picks)
	for ; size > 127; size /= 128 {
		b = append(b, byte(128+size%128))
	}
	b = append(b, byte(size))
	for _, x := range w.Picks {
		way := 0
		if x.Way {
			way = 8
		}
		b = append(b, byte(x.Who+way))
	}
	return append(b, byte(w.A), byte(w.B), byte(w.Global))
}

// hand reads bytes by the chapter's words.
type hand struct {
	b     []byte
	at    int
	fault api.Spot
}

func (h *hand) stop(at int, e api.Errno) {
	if h.fault.Err == 0 {
		h.fault = api.Spot{At: at, Err: e}
	}
}

// num reads a number byte by byte, as chapter 1 tells, up to a greatest one.
func (h *hand) num(most int) int {
	if h.fault.Err != 0 {
		return 0
	}
	n, worth := 0, 1
	for i := h.at; ; i++ {
		switch {
		case i == len(h.b):
			h.stop(h.at, api.ErrShort)
		case i == h.at+4 && h.b[i] > 15:
			h.stop(h.at, api.ErrLong)
		case i > h.at && h.b[i] == 0:
			h.stop(h.at, api.ErrForm)
		case h.b[i] >= 128:
			n, worth = n+int(h.b[i]-128)*worth, worth*128
			continue
		case n+int(h.b[i])*worth > most:
			h.stop(h.at, api.ErrLong)
		default:
			h.at = i + 1
			return n + int(h.b[i])*worth
		}
		return 0
	}
}

// block reads the bytes of a block.
func (h *hand) block() []byte {
	n := h.num(4096)
	if h.fault.Err == 0 && n > len(h.b)-h.at {
		h.stop(h.at, api.ErrShort)
	}
	if h.fault.Err != 0 {
		return nil
	}
	h.at += n
	return h.b[h.at-n : h.at]
}

// readByHand answers what Read should.
func readByHand(b []byte) (api.Witness, api.Spot) {
	if len(b) < 4 {
		return api.Witness{}, api.Spot{Err: api.ErrShort}
	}
	if b[0] != 'a' || b[1] != 'l' || b[2] != 'w' || b[3] != '1' {
		return api.Witness{}, api.Spot{Err: api.ErrForm}
	}
	h := hand{b: b, at: 4}
	turns := h.block()
	a := h.num(7)
	other := h.num(7)
	w := api.Witness{A: a, B: other, Global: h.num(15)}
	if h.at < len(b) {
		h.stop(h.at, api.ErrLeft)
	}
	for _, one := range turns {
		if one > 15 {
			h.stop(len(b), api.ErrForm)
		}
		w.Picks = append(w.Picks, api.Pick{Who: int(one % 8), Way: one > 7})
	}
	if a == other {
		h.stop(len(b), api.ErrArg)
	}
	if h.fault.Err != 0 {
		return api.Witness{}, h.fault
	}
	return w, api.Spot{}
}

// checkRead holds Read against the chapter's words, and what is read against what is written of it.
func checkRead(t *testing.T, b []byte) api.Spot {
	t.Helper()
	had := slices.Clone(b)
	w, s := Read(b)
	v, want := readByHand(b)
	if s != want || !alike(w, v) {
		t.Fatalf("Read(%x) = %v, %v, not %v, %v", b, w, s, v, want)
	}
	if !bytes.Equal(b, had) {
		t.Fatalf("Read(%x) changed that to %x", had, b)
	}
	if s.Err == 0 {
		if c, e := Write(w); e != 0 || !bytes.Equal(c, b) {
			t.Fatalf("what was read of %x was written as %x, %d", b, c, e)
		}
	}
	return s
}

// checkWrite holds Check and Write against the chapter's words, and what is written against what is read of it.
func checkWrite(t *testing.T, w api.Witness) api.Errno {
	t.Helper()
	had := copied(w)
	want := wrongWith(w)
	e := Check(w)
	b, we := Write(w)
	if e != want || we != want {
		t.Fatalf("of %v Check answered %d, Write %d, not %d", w, e, we, want)
	}
	if !alike(w, had) {
		t.Fatalf("%v became %v", had, w)
	}
	if want != 0 {
		if len(b) != 0 {
			t.Fatalf("Write(%v) = %x beside %d", w, b, we)
		}
		return want
	}
	if !bytes.Equal(b, writeByHand(w)) {
		t.Fatalf("Write(%v) = %x, not %x", w, b, writeByHand(w))
	}
	if v, s := Read(b); s != (api.Spot{}) || !alike(v, w) {
		t.Fatalf("what was written of %v was read as %v, %v", w, v, s)
	}
	return want
}

// behindAll answers the config behind picks, step by step.
func behindAll(t *testing.T, p api.Program, l []api.Pick) sem.Config {
	t.Helper()
	c, e := sem.Start(p)
	if e != api.OK {
		t.Fatalf("%v may not be: %d", p, e)
	}
	for _, x := range l {
		c = c.Step(p, x)
	}
	return c
}

// nodeOf answers the node where a thread is, by its stack alone.
func nodeOf(p api.Program, c sem.Config, who int) (api.Node, bool) {
	if who >= len(c.Threads) || len(c.Threads[who].Stack) == 0 {
		return api.Node{}, false
	}
	at := c.Threads[who].Stack[len(c.Threads[who].Stack)-1]
	return p.Funcs[at.Func][at.Node], true
}

// raceFor tells whether two threads race for a global, by their stacks alone.
func raceFor(p api.Program, c sem.Config, a, b, g int) bool {
	m, lives := nodeOf(p, c, a)
	n, too := nodeOf(p, c, b)
	access := (m.Kind == 1 || m.Kind == 2) && (n.Kind == 1 || n.Kind == 2)
	return a != b && lives && too && access && (m.Kind == 2 || n.Kind == 2) && m.Arg == g && n.Arg == g
}

// checkScript holds Of and Holds of a script against the config behind it; it answers whether two threads race there.
func checkScript(t *testing.T, p api.Program, l []api.Pick) bool {
	t.Helper()
	c := behindAll(t, p, l)
	var first api.Witness
	found := false
	for a := range min(len(c.Threads)+1, 8) {
		for b := range min(len(c.Threads)+1, 8) {
			for g := range min(p.Globals+1, 16) {
				w := api.Witness{Picks: l, A: a, B: b, Global: g}
				want, we := raceFor(p, c, a, b, g), wrongWith(w)
				if holds, e := Holds(p, w); holds != want || e != we {
					t.Fatalf("Holds(%v, %v) = %v, %d, not %v, %d", p, w, holds, e, want, we)
				}
				if want && !found {
					first, found = w, true
				}
			}
		}
	}
	w, ok := Of(p, l)
	if ok != found || !alike(w, first) {
		t.Fatalf("Of(%v, %v) = %v, %v, not %v, %v", p, l, w, ok, first, found)
	}
	if found {
		checkWrite(t, w)
	}
	return found
}

// anyNode answers a node that may be there, of as many nodes, as dice fall.
func anyNode(d *dice, p api.Program, size int) api.Node {
	kinds := []int{0, 1, 1, 1, 2, 2, 2, 2, 3, 4, 5, 5, 5, 6, 7, 8, 9}
	for {
		n := api.Node{Kind: kinds[d.below(len(kinds))], Arg: d.below(3), Next: d.below(size), Alt: d.below(3)}
		if prog.May(p, n, size) {
			return n
		}
	}
}

// anyProgram answers a program that may be, and begins with a spawn, as dice fall.
func anyProgram(d *dice) api.Program {
	for {
		p := api.Program{Globals: 1 + d.below(2), Locks: 2, Slots: 2, Funcs: make([][]api.Node, 2+d.below(3))}
		p.Funcs[0] = []api.Node{{Kind: api.Spawn, Arg: 1, Next: 1}}
		for f := range p.Funcs {
			for size := 2 + d.below(4); len(p.Funcs[f]) < size; {
				p.Funcs[f] = append(p.Funcs[f], anyNode(d, p, size))
			}
		}
		if _, _, e := prog.Check(p); e == api.OK {
			return p
		}
	}
}

// anyPicks answers picks of threads, as dice fall.
func anyPicks(d *dice, n int) []api.Pick {
	l := make([]api.Pick, n)
	for i := range l {
		l[i] = api.Pick{Who: d.below(4), Way: d.below(2) == 0}
		if d.below(8) == 0 {
			l[i].Who = d.below(8)
		}
	}
	return l
}

// anyWitness answers a witness that may be, most times, as dice fall.
func anyWitness(d *dice, size int) api.Witness {
	w := api.Witness{Picks: anyPicks(d, size), A: d.below(8), B: d.below(8), Global: d.below(16)}
	if d.below(8) == 0 {
		w.Global += d.below(40) - 20
	}
	if d.below(8) == 0 {
		w.B += d.below(20) - 10
	}
	if d.below(8) == 0 {
		w.A += d.below(20) - 10
	}
	if size > 0 && d.below(8) == 0 {
		w.Picks[d.below(size)].Who += d.below(20) - 10
	}
	return w
}
