package pcode

import (
	"bytes"
	"crypto/sha256"
	"encoding/hex"
	"math"
	"reflect"
	"slices"
	"strings"
	"testing"

	"alibi/api"
	"alibi/prog"
)

// fields names what is told of each kind, in that order.
var fields = [10][]string{
	0: {"Next"},
	1: {"Arg", "Next"},
	2: {"Arg", "Next"},
	3: {"Arg", "Next"},
	4: {"Arg", "Next"},
	5: {"Arg", "Next", "Alt"},
	6: {"Arg", "Next"},
	7: {"Arg", "Next"},
	8: {"Next", "Alt"},
	9: {},
}

// writeByHand answers the bytes of a program that may be: no number of it needs more than a byte.
func writeByHand(p api.Program) []byte {
	b := []byte{'a', 'l', 'p', '1', byte(p.Globals), byte(p.Locks), byte(p.Slots), byte(len(p.Funcs))}
	for _, l := range p.Funcs {
		b = append(b, byte(len(l)))
		for _, n := range l {
			b = append(b, byte(n.Kind))
			for _, name := range fields[n.Kind] {
				b = append(b, byte(reflect.ValueOf(n).FieldByName(name).Int()))
			}
		}
	}
	return b
}

// hand reads bytes by the chapter's words.
type hand struct {
	b     []byte
	at    int
	fault api.Spot
}

func (h *hand) stop(at int, e api.Errno) {
	if h.fault.Err == 0 {
		h.fault = api.Spot{At: at, Err: e}
	}
}

// num reads a number byte by byte, as chapter 1 tells, up to a greatest one.
func (h *hand) num(most int) int {
	if h.fault.Err != 0 {
		return 0
	}
	n, worth := 0, 1
	for i := h.at; ; i++ {
		switch {
		case i == len(h.b):
			h.stop(h.at, api.ErrShort)
		case i == h.at+4 && h.b[i] > 15:
			h.stop(h.at, api.ErrLong)
		case i > h.at && h.b[i] == 0:
			h.stop(h.at, api.ErrForm)
		case h.b[i] >= 128:
			n, worth = n+int(h.b[i]-128)*worth, worth*128
			continue
		case n+int(h.b[i])*worth > most:
			h.stop(h.at, api.ErrLong)
		default:
			h.at = i + 1
			return n + int(h.b[i])*worth
		}
		return 0
	}
}

// nodes reads a function's nodes.
func (h *hand) nodes() []api.Node {
	l := []api.Node{}
	for range h.num(64) {
		n := api.Node{Kind: h.num(9)}
		for _, name := range fields[n.Kind] {
			reflect.ValueOf(&n).Elem().FieldByName(name).SetInt(int64(h.num(64)))
		}
		l = append(l, n)
	}
	return l
}

// readByHand answers what Read should.
func readByHand(b []byte) (api.Program, api.Spot) {
	if len(b) > 65536 {
		return api.Program{}, api.Spot{Err: api.ErrLong}
	}
	if len(b) < 4 {
		return api.Program{}, api.Spot{Err: api.ErrShort}
	}
	if b[0] != 'a' || b[1] != 'l' || b[2] != 'p' || b[3] != '1' {
		return api.Program{}, api.Spot{Err: api.ErrForm}
	}
	h := hand{b: b, at: 4}
	p := api.Program{Globals: h.num(16), Locks: h.num(16), Slots: h.num(8)}
	for range h.num(16) {
		p.Funcs = append(p.Funcs, h.nodes())
	}
	if h.at < len(b) {
		h.stop(h.at, api.ErrLeft)
	}
	if _, _, e := prog.Check(p); e != 0 {
		h.stop(len(b), e)
	}
	if h.fault.Err != 0 {
		return api.Program{}, h.fault
	}
	return p, api.Spot{}
}

// isNone tells whether nothing is told of a program.
func isNone(p api.Program) bool {
	return p.Globals == 0 && p.Locks == 0 && p.Slots == 0 && len(p.Funcs) == 0
}

// checkRead holds Read against the chapter's words, and what is read against what is written of it.
func checkRead(t *testing.T, b []byte) api.Spot {
	t.Helper()
	had := slices.Clone(b)
	p, s := Read(b)
	q, want := readByHand(b)
	if s != want || !prog.Same(p, q) {
		t.Fatalf("Read(%x) = %v, %v, not %v, %v", b, p, s, q, want)
	}
	if s.Err != 0 && !isNone(p) {
		t.Fatalf("Read(%x) = %v beside %v", b, p, s)
	}
	if !bytes.Equal(b, had) {
		t.Fatalf("Read(%x) changed that to %x", had, b)
	}
	if s.Err == 0 {
		if c, e := Write(p); e != 0 || !bytes.Equal(c, b) {
			t.Fatalf("what was read of %x was written as %x, %d", b, c, e)
		}
	}
	return s
}

// checkWrite holds Write and Digest against the chapter's words, and what is written against what is read of it.
func checkWrite(t *testing.T, p api.Program) {
	t.Helper()
	had := copied(p)
	b, e := Write(p)
	d, de := Digest(p)
	if !prog.Same(p, had) {
		t.Fatalf("%v became %v", had, p)
	}
	if _, _, want := prog.Check(p); want != 0 {
		if len(b) != 0 || e != want || d != [32]byte{} || de != want {
			t.Fatalf("of %v Write answered %x, %d and Digest %x, %d, not %d", p, b, e, d, de, want)
		}
		return
	}
	want := writeByHand(p)
	if e != 0 || !bytes.Equal(b, want) {
		t.Fatalf("Write(%v) = %x, %d, not %x", p, b, e, want)
	}
	if de != 0 || d != sha256.Sum256(want) {
		t.Fatalf("Digest(%v) = %x, %d", p, d, de)
	}
	if q, s := Read(b); s != (api.Spot{}) || !prog.Same(p, q) {
		t.Fatalf("what was written of %v was read as %v, %v", p, q, s)
	}
}

// ret is a function of one Return.
func ret() []api.Node { return []api.Node{{Kind: api.Return}} }

// rets answers so many functions of one Return.
func rets(n int) [][]api.Node {
	var l [][]api.Node
	for range n {
		l = append(l, ret())
	}
	return l
}

// long is a function of so many nodes, each of which goes on at the last one.
func long(n int) []api.Node {
	var l []api.Node
	for i := range n {
		l = append(l, []api.Node{{Kind: api.Skip, Next: n - 1}, {Kind: api.Branch, Next: n - 1, Alt: i}}[i%2])
	}
	return l
}

// copied answers a program that shares no memory with another one, but is like it.
func copied(p api.Program) api.Program {
	q := p
	q.Funcs = nil
	for _, l := range p.Funcs {
		q.Funcs = append(q.Funcs, slices.Clone(l))
	}
	return q
}

// every is a program of each kind of node, no two of whose fields in one node are alike.
func every() api.Program {
	return api.Program{Globals: 3, Locks: 2, Slots: 4, Funcs: [][]api.Node{
		{
			{Kind: api.Skip, Next: 1},
			{Kind: api.Read, Arg: 2, Next: 3},
			{Kind: api.Write, Arg: 1, Next: 4},
			{Kind: api.Lock, Arg: 1, Next: 5},
			{Kind: api.Unlock, Arg: 0, Next: 6},
			{Kind: api.Spawn, Arg: 2, Next: 9, Alt: 3},
			{Kind: api.Join, Arg: 3, Next: 7},
			{Kind: api.Call, Arg: 1, Next: 8},
			{Kind: api.Branch, Next: 9, Alt: 2},
			{Kind: api.Return},
		},
		{{Kind: api.Call, Arg: 2, Next: 1}, {Kind: api.Return}},
		{{Kind: api.Return}},
	}}
}

// everyBytes are the bytes of every, written out.
const everyBytes = "alp1" + "\x03\x02\x04\x03" +
	"\x0a" + "\x00\x01" + "\x01\x02\x03" + "\x02\x01\x04" + "\x03\x01\x05" + "\x04\x00\x06" + "\x05\x02\x09\x03" + "\x06\x03\x07" + "\x07\x01\x08" + "\x08\x09\x02" + "\x09" +
	"\x02" + "\x07\x02\x01" + "\x09" +
	"\x01" + "\x09"

// greatest is the program that has the most of everything.
func greatest() api.Program {
	p := api.Program{Globals: 16, Locks: 16, Slots: 8}
	for range 16 {
		l := []api.Node{}
		for i := range 64 {
			l = append(l, api.Node{Kind: api.Spawn, Arg: 15, Next: 63 - i, Alt: 7})
		}
		p.Funcs = append(p.Funcs, l)
	}
	return p
}

// whole are programs that may be, at every edge.
func whole() []api.Program {
	chain := api.Program{}
	for f := range 15 {
		chain.Funcs = append(chain.Funcs, []api.Node{{Kind: api.Call, Arg: f + 1, Next: 1}, {Kind: api.Return}})
	}
	chain.Funcs = append(chain.Funcs, ret())
	return []api.Program{
		{Funcs: rets(1)}, {Funcs: rets(2)}, {Funcs: rets(16)}, {Funcs: [][]api.Node{{{}}}},
		{Globals: 16, Funcs: rets(1)}, {Locks: 16, Funcs: rets(1)}, {Slots: 8, Funcs: rets(1)},
		{Globals: 16, Locks: 16, Slots: 8, Funcs: rets(16)}, {Globals: 1, Locks: 2, Slots: 3, Funcs: rets(4)},
		{Funcs: [][]api.Node{long(63)}}, {Funcs: [][]api.Node{long(64)}}, {Funcs: append(rets(15), long(64))},
		{Funcs: [][]api.Node{long(2), long(1), long(3)}},
		{Globals: 16, Funcs: [][]api.Node{{{Kind: api.Read, Arg: 15}}, {{Kind: api.Write, Arg: 15}}}},
		{Locks: 16, Funcs: [][]api.Node{{{Kind: api.Lock, Arg: 15}}, {{Kind: api.Unlock, Arg: 15}}}},
		{Slots: 8, Funcs: [][]api.Node{{{Kind: api.Spawn, Alt: 7}}, {{Kind: api.Join, Arg: 7}}}},
		chain, every(), greatest(),
	}
}

// wrong are programs that may not be, and why.
func wrong() map[api.Errno][]api.Program {
	return map[api.Errno][]api.Program{
		api.ErrArg: {
			{}, {Funcs: [][]api.Node{}}, {Globals: 17}, {Globals: 1, Locks: 1, Slots: 1},
			{Globals: -1, Funcs: rets(1)}, {Locks: -1, Funcs: rets(1)}, {Slots: -1, Funcs: rets(1)},
			{Globals: math.MinInt, Funcs: rets(1)}, {Locks: -1 << 32, Funcs: rets(1)}, {Slots: -256, Funcs: rets(1)},
			{Globals: 17, Slots: -1, Funcs: rets(17)},
			{Funcs: [][]api.Node{nil}}, {Funcs: [][]api.Node{ret(), {}}}, {Funcs: [][]api.Node{{}, {{Kind: 10}}}},
		},
		api.ErrLong: {
			{Globals: 17, Funcs: rets(1)}, {Locks: 17, Funcs: rets(1)}, {Slots: 9, Funcs: rets(1)}, {Funcs: rets(17)},
			{Globals: 1 << 32, Funcs: rets(1)}, {Locks: math.MaxInt, Funcs: rets(1)}, {Slots: 256, Funcs: rets(1)},
			{Slots: 9, Funcs: [][]api.Node{nil}}, {Funcs: [][]api.Node{long(65)}}, {Funcs: [][]api.Node{ret(), long(300), nil}},
			{Funcs: make([][]api.Node, 70000)}, {Funcs: [][]api.Node{long(70000)}},
		},
		api.ErrForm: {
			{Funcs: [][]api.Node{{{Next: 1}}}}, {Funcs: [][]api.Node{{{Next: -1}}}}, {Funcs: [][]api.Node{{{Next: 1 << 32}}}},
			{Funcs: [][]api.Node{{{Arg: 1}}}}, {Funcs: [][]api.Node{{{Alt: 1}}}}, {Funcs: [][]api.Node{{{Kind: api.Branch, Arg: 1}}}},
			{Funcs: [][]api.Node{{{Kind: api.Return, Arg: 1}}}}, {Funcs: [][]api.Node{{{Kind: api.Return, Next: 1}, {}}}}, {Funcs: [][]api.Node{{{Kind: api.Return, Alt: 1}, {}}}},
			{Globals: 1, Funcs: [][]api.Node{{{Kind: api.Read, Alt: 1}, {}}}}, {Globals: 1, Funcs: [][]api.Node{{{Kind: api.Write, Arg: 1}}}},
			{Funcs: [][]api.Node{{{Kind: 10}}}}, {Funcs: [][]api.Node{{{Kind: -1}}}}, {Funcs: [][]api.Node{{{Kind: 1<<32 + 9}}}}, {Funcs: [][]api.Node{{{Kind: 256}}}},
			{Funcs: [][]api.Node{{{Kind: 10}}, nil}}, {Funcs: [][]api.Node{{{Kind: api.Call}, {Kind: 10}}}},
		},
		api.ErrRound: {
			{Funcs: [][]api.Node{{{Kind: api.Call}}}}, {Funcs: [][]api.Node{ret(), {{Kind: api.Call, Arg: 1}}}},
			{Funcs: [][]api.Node{{{Kind: api.Call, Arg: 1}}, {{Kind: api.Call}}}},
		},
	}
}

// 7.1: the chapter's example.
func TestWrite(t *testing.T) {
	want := []byte{'a', 'l', 'p', '1', 0, 0, 0, 1, 1, 9}
	if b, e := Write(api.Program{Funcs: rets(1)}); e != 0 || !bytes.Equal(b, want) {
		t.Errorf("Write of one Return = %x, %d", b, e)
	}
	if b, e := Write(every()); e != 0 || string(b) != everyBytes {
		t.Errorf("Write of every kind = %x, %d", b, e)
	}
}

// 7.1: each kind alone, and every program at an edge.
func TestWriteOfKinds(t *testing.T) {
	for _, c := range []struct {
		n api.Node
		b string
	}{
		{api.Node{Kind: api.Skip, Next: 3}, "\x00\x03"},
		{api.Node{Kind: api.Read, Arg: 1, Next: 3}, "\x01\x01\x03"},
		{api.Node{Kind: api.Write, Arg: 1, Next: 3}, "\x02\x01\x03"},
		{api.Node{Kind: api.Lock, Arg: 1, Next: 3}, "\x03\x01\x03"},
		{api.Node{Kind: api.Unlock, Arg: 1, Next: 3}, "\x04\x01\x03"},
		{api.Node{Kind: api.Spawn, Arg: 1, Next: 3, Alt: 2}, "\x05\x01\x03\x02"},
		{api.Node{Kind: api.Join, Arg: 1, Next: 3}, "\x06\x01\x03"},
		{api.Node{Kind: api.Call, Arg: 1, Next: 3}, "\x07\x01\x03"},
		{api.Node{Kind: api.Branch, Next: 3, Alt: 2}, "\x08\x03\x02"},
		{api.Node{Kind: api.Return}, "\x09"},
	} {
		p := api.Program{Globals: 2, Locks: 2, Slots: 3, Funcs: [][]api.Node{append([]api.Node{c.n, {}, {}}, ret()...), ret()}}
		want := "alp1\x02\x02\x03\x02" + "\x04" + c.b + "\x00\x00" + "\x00\x00" + "\x09" + "\x01\x09"
		if b, e := Write(p); e != 0 || string(b) != want {
			t.Errorf("Write of %v = %x, %d, not %x", c.n, b, e, want)
		}
		checkWrite(t, p)
	}
	for _, p := range whole() {
		checkWrite(t, p)
	}
	if b, _ := Write(greatest()); len(b) != 8+16*(1+64*4) {
		t.Errorf("the greatest program has %d bytes", len(b))
	}
}

// 7.1: which error is met, and nothing beside it.
func TestWriteOfWhatMayNotBe(t *testing.T) {
	for want, l := range wrong() {
		for _, p := range l {
			if b, e := Write(p); len(b) != 0 || e != want {
				t.Errorf("Write(%v) = %x, %d, not %d", p, b, e, want)
			}
			if d, e := Digest(p); d != [32]byte{} || e != want {
				t.Errorf("Digest(%v) = %x, %d, not %d", p, d, e, want)
			}
		}
	}
}

// 7.1
func TestDigest(t *testing.T) {
	d, e := Digest(api.Program{Funcs: rets(1)})
	if hex.EncodeToString(d[:]) != "ff34b5ab047ffc5e50288afb3838a61aabcc50377179f5ebf9e702cd07ff21b3" || e != 0 {
		t.Errorf("Digest of one Return = %x, %d", d, e)
	}
	seen := map[[32]byte]bool{}
	for _, p := range whole() {
		d, e := Digest(p)
		if d != sha256.Sum256(writeByHand(p)) || e != 0 {
			t.Errorf("Digest(%v) = %x, %d", p, d, e)
		}
		seen[d] = true
	}
	if len(seen) != len(whole()) {
		t.Errorf("%d programs have %d digests", len(whole()), len(seen))
	}
}

// 7.1: what is handed out is new memory, and what is handed in isn't changed, spare room included.
func TestWriteIsNewMemory(t *testing.T) {
	p, had := every(), every()
	spare := append(p.Funcs, nil)
	for f, l := range p.Funcs {
		p.Funcs[f] = append(l, api.Node{Kind: 77})[:len(l)]
	}
	a, _ := Write(p)
	b, _ := Write(p)
	b = b[:cap(b)]
	for i := range b {
		b[i] = 99
	}
	if string(a) != everyBytes {
		t.Errorf("two answers of Write share memory")
	}
	if !prog.Same(p, had) || spare[len(p.Funcs)] != nil {
		t.Errorf("%v became %v", had, p)
	}
	for f, l := range p.Funcs {
		if l[:len(l)+1][len(l)] != (api.Node{Kind: 77}) {
			t.Errorf("what is behind function %d was changed", f)
		}
	}
}

// 7.2: the chapter's example, and each kind of node.
func TestRead(t *testing.T) {
	for _, c := range []struct {
		b string
		p api.Program
	}{
		{"alp1\x00\x00\x00\x01\x01\x09", api.Program{Funcs: rets(1)}},
		{everyBytes, every()},
		{"alp1\x10\x10\x08\x01\x01\x09", api.Program{Globals: 16, Locks: 16, Slots: 8, Funcs: rets(1)}},
		{"alp1\x01\x02\x03\x01\x01\x00\x00", api.Program{Globals: 1, Locks: 2, Slots: 3, Funcs: [][]api.Node{{{}}}}},
	} {
		if p, s := Read([]byte(c.b)); s != (api.Spot{}) || !prog.Same(p, c.p) {
			t.Errorf("Read(%x) = %v, %v", c.b, p, s)
		}
	}
	for _, p := range whole() {
		b := writeByHand(p)
		if q, s := Read(b); s != (api.Spot{}) || !prog.Same(p, q) {
			t.Errorf("Read(%x) = %v, %v", b, q, s)
		}
		checkRead(t, b)
	}
}

// 7.2: which fault is met first, and where.
func TestReadOfWrongBytes(t *testing.T) {
	for _, c := range []struct {
		b  string
		at int
		e  api.Errno
	}{
		// fewer than four bytes, whatever they are
		{"", 0, api.ErrShort}, {"a", 0, api.ErrShort}, {"al", 0, api.ErrShort}, {"alp", 0, api.ErrShort},
		{"x", 0, api.ErrShort}, {"lp1", 0, api.ErrShort}, {"\x00\x00\x00", 0, api.ErrShort},

		// four bytes that aren't the first four, whatever is behind them
		{"alp2", 0, api.ErrForm}, {"alp\x01", 0, api.ErrForm}, {"alpx", 0, api.ErrForm}, {"alx1", 0, api.ErrForm}, {"axp1", 0, api.ErrForm}, {"xlp1", 0, api.ErrForm},
		{"ALP1", 0, api.ErrForm}, {"1pla", 0, api.ErrForm}, {"\x00alp1", 0, api.ErrForm}, {"alp0\x00\x00\x00\x01\x01\x09", 0, api.ErrForm},
		{"alp2\xff\xff\xff\xff\xff", 0, api.ErrForm}, {"alp2\x11", 0, api.ErrForm}, {"alp2\x00\x00\x00\x01\x01\x09x", 0, api.ErrForm},

		// too few bytes behind them
		{"alp1", 4, api.ErrShort}, {"alp1\x00", 5, api.ErrShort}, {"alp1\x80", 4, api.ErrShort}, {"alp1\x00\x00\x00", 7, api.ErrShort},
		{"alp1\x00\x00\x00\x01", 8, api.ErrShort}, {"alp1\x00\x00\x00\x01\x01", 9, api.ErrShort}, {"alp1\x00\x00\x00\x01\x01\x00", 10, api.ErrShort},
		{"alp1\x00\x00\x01\x01\x01\x05\x00\x00", 12, api.ErrShort}, {"alp1\x00\x00\x00\x01\x02\x09", 10, api.ErrShort}, {"alp1\x00\x00\x00\x02\x01\x09", 10, api.ErrShort},

		// numbers that are too great
		{"alp1\x11", 4, api.ErrLong}, {"alp1\x00\x11", 5, api.ErrLong}, {"alp1\x00\x00\x09", 6, api.ErrLong}, {"alp1\x00\x00\x00\x11", 7, api.ErrLong},
		{"alp1\x00\x00\x00\x01\x41", 8, api.ErrLong}, {"alp1\x00\x00\x00\x01\x01\x0a", 9, api.ErrLong}, {"alp1\x00\x00\x00\x01\x01\x00\x41", 10, api.ErrLong},
		{"alp1\x00\x00\x01\x01\x01\x05\x00\x00\x41", 12, api.ErrLong}, {"alp1\x00\x00\x00\x01\x01\x08\x00\x41", 11, api.ErrLong},
		{"alp1\x80\x01", 4, api.ErrLong}, {"alp1\xff\xff\xff\xff\x0f", 4, api.ErrLong}, {"alp1\xff\xff\xff\xff\x10", 4, api.ErrLong}, {"alp1\x80\x80\x80\x80\x80\x01", 4, api.ErrLong},
		{"alp1\x00\x00\x00\x01\x01\x89\x01", 9, api.ErrLong},

		// numbers of more bytes than they need
		{"alp1\x80\x00", 4, api.ErrForm}, {"alp1\x00\x81\x00", 5, api.ErrForm}, {"alp1\x00\x00\x80\x80\x00", 6, api.ErrForm}, {"alp1\x00\x00\x00\x81\x00\x01\x09", 7, api.ErrForm},
		{"alp1\x00\x00\x00\x01\x81\x00\x09", 8, api.ErrForm}, {"alp1\x00\x00\x00\x01\x01\x89\x00", 9, api.ErrForm}, {"alp1\x00\x00\x00\x01\x01\x00\x80\x00", 10, api.ErrForm},

		// something left over
		{"alp1\x00\x00\x00\x01\x01\x09\x00", 10, api.ErrLeft}, {"alp1\x00\x00\x00\x01\x01\x09alp1", 10, api.ErrLeft}, {"alp1\x00\x00\x00\x01\x01\x00\x00\xff", 11, api.ErrLeft},
		{"alp1\x00\x00\x00\x01\x01\x09\x80\x00", 10, api.ErrLeft},

		// bytes that are read to their end, of what may not be
		{"alp1\x00\x00\x00\x00", 8, api.ErrArg}, {"alp1\x10\x10\x08\x00", 8, api.ErrArg}, {"alp1\x00\x00\x00\x01\x00", 9, api.ErrArg}, {"alp1\x00\x00\x00\x02\x01\x09\x00", 11, api.ErrArg},
		{"alp1\x00\x00\x00\x01\x01\x00\x01", 11, api.ErrForm}, {"alp1\x00\x00\x00\x01\x01\x00\x40", 11, api.ErrForm}, {"alp1\x00\x00\x00\x01\x01\x01\x00\x00", 12, api.ErrForm},
		{"alp1\x01\x00\x00\x01\x01\x01\x40\x00", 12, api.ErrForm}, {"alp1\x00\x00\x08\x01\x01\x05\x00\x00\x40", 13, api.ErrForm},
		{"alp1\x00\x00\x00\x02\x01\x00\x01\x01\x09", 13, api.ErrForm}, {"alp1\x00\x00\x00\x02\x00\x01\x00\x01", 12, api.ErrArg},
		{"alp1\x00\x00\x00\x01\x01\x07\x00\x00", 12, api.ErrRound}, {"alp1\x00\x00\x00\x02\x01\x09\x01\x07\x01\x00", 14, api.ErrRound},

		// what is wrong with the bytes, ahead of what is wrong with the program
		{"alp1\x00\x00\x00\x00\x00", 8, api.ErrLeft}, {"alp1\x00\x00\x00\x01\x00\x00", 9, api.ErrLeft}, {"alp1\x00\x00\x00\x01\x01\x07\x00\x00\x00", 12, api.ErrLeft},
		{"alp1\x00\x00\x00\x02\x00", 9, api.ErrShort}, {"alp1\x00\x00\x00\x02\x01\x00\x01", 11, api.ErrShort}, {"alp1\x00\x00\x00\x02\x00\x41", 9, api.ErrLong},
		{"alp1\x00\x00\x00\x02\x01\x07\x00\x00\x80\x00", 12, api.ErrForm},
	} {
		b := []byte(c.b)
		if p, s := Read(b); s != (api.Spot{At: c.at, Err: c.e}) || !isNone(p) {
			t.Errorf("Read(%x) = %v, %v, not %d, %d", c.b, p, s, c.at, c.e)
		}
		checkRead(t, b)
	}
	if p, s := Read(nil); s != (api.Spot{Err: api.ErrShort}) || !isNone(p) {
		t.Errorf("Read(nil) = %v, %v", p, s)
	}
}

// 7.2: every front of a program's bytes ends too soon, and behind them nothing may be left.
func TestReadOfFronts(t *testing.T) {
	for _, p := range whole() {
		b := writeByHand(p)
		for n := range b {
			want := api.Spot{At: n, Err: api.ErrShort}
			if n < 4 {
				want.At = 0
			}
			if s := checkRead(t, b[:n:n]); s != want {
				t.Fatalf("the first %d bytes of %x: %v, not %v", n, b, s, want)
			}
		}
		for _, more := range []string{"\x00", "\x09", "\x80", "\xff", "alp1"} {
			if s := checkRead(t, append(slices.Clone(b), more...)); s != (api.Spot{At: len(b), Err: api.ErrLeft}) {
				t.Fatalf("%x behind %x: %v", more, b, s)
			}
		}
	}
}

// 7.2: numbers at and one above the most that each may be, wherever they stand.
func TestReadOfNumbersAtTheMost(t *testing.T) {
	for _, c := range []struct {
		front, behind string
		most          int
		e             api.Errno // at the most
	}{
		{"alp1", "\x00\x00\x01\x01\x09", 16, api.OK},
		{"alp1\x00", "\x00\x01\x01\x09", 16, api.OK},
		{"alp1\x00\x00", "\x01\x01\x09", 8, api.OK},
		{"alp1\x00\x00\x00", strings.Repeat("\x01\x09", 16), 16, api.OK},
		{"alp1\x00\x00\x00\x01", strings.Repeat("\x00\x00", 64), 64, api.OK},
		{"alp1\x00\x00\x00\x01\x01", "", 9, api.OK},
		{"alp1\x00\x00\x00\x01\x01\x00", "", 64, api.ErrForm},
		{"alp1\x10\x00\x00\x01\x01\x01", "\x00", 64, api.ErrForm},
		{"alp1\x10\x00\x00\x01\x01\x01\x0f", "", 64, api.ErrForm},
		{"alp1\x10\x00\x00\x01\x01\x02", "\x00", 64, api.ErrForm},
		{"alp1\x10\x00\x00\x01\x01\x02\x0f", "", 64, api.ErrForm},
		{"alp1\x00\x10\x00\x01\x01\x03", "\x00", 64, api.ErrForm},
		{"alp1\x00\x10\x00\x01\x01\x03\x0f", "", 64, api.ErrForm},
		{"alp1\x00\x10\x00\x01\x01\x04", "\x00", 64, api.ErrForm},
		{"alp1\x00\x10\x00\x01\x01\x04\x0f", "", 64, api.ErrForm},
		{"alp1\x00\x00\x08\x01\x01\x05", "\x00\x00", 64, api.ErrForm},
		{"alp1\x00\x00\x08\x01\x01\x05\x00", "\x00", 64, api.ErrForm},
		{"alp1\x00\x00\x08\x01\x01\x05\x00\x00", "", 64, api.ErrForm},
		{"alp1\x00\x00\x08\x01\x01\x06", "\x00", 64, api.ErrForm},
		{"alp1\x00\x00\x08\x01\x01\x06\x07", "", 64, api.ErrForm},
		{"alp1\x00\x00\x00\x02\x01\x07", "\x00\x01\x09", 64, api.ErrForm},
		{"alp1\x00\x00\x00\x02\x01\x07\x01", "\x01\x09", 64, api.ErrForm},
		{"alp1\x00\x00\x00\x01\x01\x08", "\x00", 64, api.ErrForm},
		{"alp1\x00\x00\x00\x01\x01\x08\x00", "", 64, api.ErrForm},
	} {
		want := api.Spot{}
		if c.e != 0 {
			want = api.Spot{At: len(c.front) + 1 + len(c.behind), Err: c.e}
		}
		at := c.front + string(rune(c.most)) + c.behind
		if s := checkRead(t, []byte(at)); s != want {
			t.Errorf("Read(%x) = %v, not %v", at, s, want)
		}
		for _, above := range []string{string(rune(c.most + 1)), "\x7f", "\x80\x01", "\x80\x02", "\x80\x80\x04", "\x80\x80\x80\x80\x08", "\xff\xff\xff\xff\x0f"} {
			b := c.front + above + c.behind
			if s := checkRead(t, []byte(b)); s != (api.Spot{At: len(c.front), Err: api.ErrLong}) {
				t.Errorf("Read(%x) = %v", b, s)
			}
		}
		for _, form := range []string{"\x80\x00", "\xff\x80\x00", string([]byte{byte(c.most) | 128, 0})} {
			b := c.front + form + c.behind
			if s := checkRead(t, []byte(b)); s != (api.Spot{At: len(c.front), Err: api.ErrForm}) {
				t.Errorf("Read(%x) = %v", b, s)
			}
		}
	}
}

// 7.2: 65536 bytes, and one more, whatever they are.
func TestReadOfManyBytes(t *testing.T) {
	for _, c := range []struct {
		b    string
		want api.Spot // of 65536 bytes
	}{
		{"", api.Spot{Err: api.ErrForm}},
		{"alp2", api.Spot{Err: api.ErrForm}},
		{"alp1", api.Spot{At: 8, Err: api.ErrLeft}},
		{"alp1\x11", api.Spot{At: 4, Err: api.ErrLong}},
		{"alp1\x00\x00\x00\x01\x01\x09", api.Spot{At: 10, Err: api.ErrLeft}},
		{everyBytes, api.Spot{At: len(everyBytes), Err: api.ErrLeft}},
	} {
		for _, more := range []int{1, 2, 65536, 1 << 20} {
			b := make([]byte, 65536+more)
			copy(b, c.b)
			if s := checkRead(t, b); s != (api.Spot{Err: api.ErrLong}) {
				t.Errorf("Read of %d bytes that begin with %x = %v", len(b), c.b, s)
			}
		}
		b := make([]byte, 65536)
		copy(b, c.b)
		if s := checkRead(t, b); s != c.want {
			t.Errorf("Read of 65536 bytes that begin with %x = %v, not %v", c.b, s, c.want)
		}
		checkRead(t, b[:65535])
	}
}

// 7.2: what is handed out is new memory, spare room included; what is handed in isn't kept.
func TestReadIsNewMemory(t *testing.T) {
	b := append([]byte(everyBytes), "spare"...)
	p, _ := Read(b[:len(everyBytes)])
	q, _ := Read(b[:len(everyBytes)])
	if string(b) != everyBytes+"spare" {
		t.Errorf("Read changed its bytes to %x", b)
	}
	for i := range b {
		b[i] = 99
	}
	for _, l := range q.Funcs {
		l = l[:cap(l)]
		for i := range l {
			l[i] = api.Node{Kind: 99}
		}
	}
	funcs := q.Funcs[:cap(q.Funcs)]
	for f := range funcs {
		funcs[f] = nil
	}
	if !prog.Same(p, every()) {
		t.Errorf("what Read answered became %v", p)
	}
	for f, l := range p.Funcs {
		for _, n := range l[len(l):cap(l)] {
			if n != (api.Node{}) {
				t.Errorf("behind function %d stands %v", f, n)
			}
		}
		p.Funcs[f] = append(l, api.Node{Kind: 77})[:len(l)]
	}
	if !prog.Same(p, every()) {
		t.Errorf("two functions of one answer share memory")
	}
}

// 7.2, 7.3: each byte of a program changed to every other one of a short program, and to some of a long one, left out, or told twice.
func TestReadOfEachByteChanged(t *testing.T) {
	met := map[api.Errno]int{}
	for _, p := range whole()[:len(whole())-1] {
		b := writeByHand(p)
		for at := range b {
			for x := range 256 {
				if len(b) > 99 && x%64 > 9 {
					continue
				}
				c := slices.Clone(b)
				c[at] = byte(x)
				met[checkRead(t, c).Err]++
			}
			met[checkRead(t, slices.Delete(slices.Clone(b), at, at+1)).Err]++
			met[checkRead(t, slices.Insert(slices.Clone(b), at, b[at])).Err]++
			met[checkRead(t, slices.Insert(slices.Clone(b), at, b[at]|128)).Err]++
		}
	}
	for _, e := range []api.Errno{api.OK, api.ErrShort, api.ErrForm, api.ErrLong, api.ErrLeft, api.ErrRound} {
		if met[e] < 20 {
			t.Errorf("Read answered %d only %d times", e, met[e])
		}
	}
}

// 7.2, 7.3: all rows of up to five bytes of a few behind the counts: what is read is written as it was.
func TestReadOfAllShortRows(t *testing.T) {
	some := []byte{0, 1, 2, 5, 7, 8, 9, 64, 128}
	read := 0
	for _, front := range []string{"alp1\x01\x01\x01\x01", "alp1\x00\x00\x00\x02", "alp1\x02\x02\x02\x03"} {
		rows := [][]byte{[]byte(front)}
		for range 5 {
			longer := [][]byte{}
			for _, b := range rows {
				if s := checkRead(t, b); s.Err == 0 {
					read++
				} else if s.Err == api.ErrShort {
					for _, x := range some {
						longer = append(longer, append(slices.Clone(b), x))
					}
				}
			}
			rows = longer
		}
		for _, b := range rows {
			if checkRead(t, b).Err == 0 {
				read++
			}
		}
	}
	if read < 30 {
		t.Errorf("only %d rows were read", read)
	}
}

// pick answers a function that answers numbers below n, another one each time.
func pick() func(n int) int {
	x := uint32(7)
	return func(n int) int {
		x = x*1664525 + 1013904223
		return int(x>>8) % n
	}
}

// program answers a program whose nodes may be, but for calls that go round.
func program(pick func(n int) int) api.Program {
	p := api.Program{Globals: pick(17), Locks: pick(17), Slots: pick(9)}
	funcs := 1 + pick(16)>>pick(4)
	for range funcs {
		size := 1 + pick(64)>>pick(6)
		l := []api.Node{}
		for len(l) < size {
			n := api.Node{Kind: pick(10)}
			switch n.Kind {
			case api.Skip, api.Branch, api.Return:
			case api.Read, api.Write:
				n.Arg = pick(max(p.Globals, 1))
			case api.Lock, api.Unlock:
				n.Arg = pick(max(p.Locks, 1))
			case api.Join:
				n.Arg = pick(max(p.Slots, 1))
			case api.Spawn:
				n.Arg, n.Alt = pick(funcs), pick(max(p.Slots, 1))
			case api.Call:
				n.Arg = pick(funcs)
				if n.Arg <= len(p.Funcs) && pick(20) > 0 {
					n = api.Node{}
				}
			}
			if n.Kind != api.Return {
				n.Next = pick(size)
			}
			if n.Kind == api.Branch {
				n.Alt = pick(size)
			}
			if prog.May(api.Program{Globals: p.Globals, Locks: p.Locks, Slots: p.Slots, Funcs: rets(funcs)}, n, size) || pick(200) == 0 {
				l = append(l, n)
			}
		}
		p.Funcs = append(p.Funcs, l)
	}
	return p
}

// 7.1, 7.3: many programs: what is written is read as it was.
func TestManyPrograms(t *testing.T) {
	pick := pick()
	met := map[api.Errno]int{}
	for range 5000 {
		p := program(pick)
		checkWrite(t, p)
		_, _, e := prog.Check(p)
		met[e]++
	}
	for _, e := range []api.Errno{api.OK, api.ErrForm, api.ErrRound} {
		if met[e] < 50 {
			t.Errorf("%d programs have the error %d", met[e], e)
		}
	}
}

// 7.2, 7.3: many rows of bytes, some with several faults: what is read is written as it was.
func TestManyRows(t *testing.T) {
	pick := pick()
	met := map[api.Errno]int{}
	for range 60000 {
		b := []byte{'a', 'l', 'p', '1', byte(pick(4)), byte(pick(4)), byte(pick(4)), byte(pick(4))}
		for range pick(4) {
			size := pick(4)
			b = append(b, byte(size))
			for range size {
				kind := pick(10)
				b = append(b, byte(kind))
				for range fields[kind] {
					b = append(b, byte(pick(3)))
				}
			}
		}
		for range pick(4) / 2 {
			at := pick(len(b))
			switch pick(4) {
			case 0:
				b = b[:at]
			case 1:
				b = slices.Insert(b, at, byte(pick(256)))
			default:
				b[at] = byte(pick(256) >> pick(8))
			}
			if len(b) == 0 {
				break
			}
		}
		met[checkRead(t, b).Err]++
	}
	for _, e := range []api.Errno{api.OK, api.ErrArg, api.ErrShort, api.ErrForm, api.ErrLong, api.ErrLeft, api.ErrRound} {
		if met[e] < 50 {
			t.Errorf("Read answered %d only %d times", e, met[e])
		}
	}
}
