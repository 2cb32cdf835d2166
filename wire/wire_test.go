package wire

import (
	"bytes"
	"math"
	"slices"
	"testing"

	"alibi/api"
)

// ask is a call of a reader.
type ask struct {
	what string // num, raw, block, set or done
	n    int
}

// told is what a call of a reader answered, and what can be told of the reader behind it.
type told struct {
	num   int
	bytes string
	set   uint32
	done  bool
	fault api.Spot
	left  int
}

// do asks a reader.
func (a ask) do(r *Reader) told {
	t := told{}
	switch a.what {
	case "num":
		t.num = r.Num(a.n)
	case "raw":
		t.bytes = string(r.Raw(a.n))
	case "block":
		t.bytes = string(r.Block(a.n))
	case "set":
		t.set = r.Set(a.n)
	case "done":
		t.done = r.Done()
	}
	t.fault, t.left = r.Fault(), r.Left()
	return t
}

// hand is a reader by the chapter's words: what is left, where that begins, and the fault.
type hand struct {
	left  []byte
	at    int
	fault api.Spot
}

func (h *hand) do(a ask) told {
	t := told{}
	switch {
	case h.fault.Err != 0:
	case a.what == "num":
		t.num = h.num(a.n)
	case a.what == "raw":
		t.bytes = h.raw(a.n)
	case a.what == "block":
		if n := h.num(a.n); h.fault.Err == 0 {
			t.bytes = h.raw(n)
		}
	case a.what == "set":
		t.set = h.set(a.n)
	case len(h.left) != 0:
		h.stop(api.ErrLeft)
	default:
		t.done = true
	}
	t.fault, t.left = h.fault, len(h.left)
	return t
}

func (h *hand) stop(e api.Errno) { h.fault = api.Spot{At: h.at, Err: e} }

func (h *hand) skip(n int) { h.left, h.at = h.left[n:], h.at+n }

// num reads a number byte by byte, as chapter 1 tells.
func (h *hand) num(most int) int {
	n, worth := 0, 1
	for i := 0; ; i++ {
		switch {
		case i == len(h.left):
			h.stop(api.ErrShort)
		case i == 4 && h.left[i] > 15:
			h.stop(api.ErrLong)
		case i > 0 && h.left[i] == 0:
			h.stop(api.ErrForm)
		case h.left[i] >= 128:
			n, worth = n+int(h.left[i]-128)*worth, worth*128
			continue
		case n+int(h.left[i])*worth > most:
			h.stop(api.ErrLong)
		default:
			n += int(h.left[i]) * worth
			h.skip(i + 1)
			return n
		}
		return 0
	}
}

func (h *hand) raw(n int) string {
	switch {
	case n < 0:
		h.stop(api.ErrArg)
	case n > len(h.left):
		h.stop(api.ErrShort)
	default:
		b := string(h.left[:n])
		h.skip(n)
		return b
	}
	return ""
}

func (h *hand) set(size int) uint32 {
	if size < 0 {
		size = 0
	}
	if size > 32 {
		size = 32
	}
	ids := []int{}
	count := h.num(size)
	for i := 0; i < count; i++ {
		began := *h
		id := h.num(size - 1)
		if h.fault.Err != 0 {
			return 0
		}
		if i > 0 && id <= ids[i-1] {
			*h = began
			h.stop(api.ErrOrder)
			return 0
		}
		ids = append(ids, id)
	}
	return value(ids...)
}

// value answers the set of ids, by adding.
func value(ids ...int) uint32 {
	m := uint32(0)
	for _, id := range ids {
		worth := uint32(1)
		for range id {
			worth *= 2
		}
		m += worth
	}
	return m
}

// below answers the numbers from 0 on that are less than n, as bytes.
func below(n int) []byte {
	l := []byte{}
	for i := range n {
		l = append(l, byte(i))
	}
	return l
}

// checkAsks holds a reader of bytes against the chapter's words, call by call.
func checkAsks(t *testing.T, b []byte, asks ...ask) {
	t.Helper()
	r, h := New(b), hand{left: b}
	for i, a := range asks {
		if got, want := a.do(r), h.do(a); got != want {
			t.Fatalf("of % x, %v: call %d told %#v, not %#v", b, asks, i, got, want)
		}
	}
}

// everyAsk answers a call of each kind, some of them with odd numbers.
func everyAsk() []ask {
	return []ask{
		{"num", 0}, {"num", 300}, {"num", -1}, {"num", math.MaxInt}, {"raw", 0}, {"raw", 1}, {"raw", -1}, {"raw", math.MaxInt},
		{"block", 0}, {"block", 9}, {"block", -1}, {"set", 0}, {"set", 4}, {"set", 32}, {"set", -1}, {"set", 99}, {"done", 0},
	}
}

// spoil changes all of a list, spare room included.
func spoil(b []byte) {
	b = b[:cap(b)]
	for i := range b {
		b[i] ^= 0xff
	}
}

// filled answers so many bytes, of many kinds.
func filled(n int) []byte {
	b := make([]byte, n)
	for i := range b {
		b[i] = byte(i*7 + i/256)
	}
	return b
}

// 4.1
func TestWriterNum(t *testing.T) {
	for _, c := range []struct {
		n int
		b []byte
	}{
		{0, []byte{0}}, {1, []byte{1}}, {127, []byte{127}}, {128, []byte{128, 1}}, {300, []byte{172, 2}},
		{1<<14 - 1, []byte{255, 127}}, {1 << 14, []byte{128, 128, 1}}, {1<<21 - 1, []byte{255, 255, 127}},
		{1 << 28, []byte{128, 128, 128, 128, 1}}, {1<<31 - 1, []byte{255, 255, 255, 255, 7}},
		{1 << 31, []byte{128, 128, 128, 128, 8}}, {1<<32 - 2, []byte{254, 255, 255, 255, 15}},
		{1<<32 - 1, []byte{255, 255, 255, 255, 15}},

		// of others what is left of them by 2^32
		{1 << 32, []byte{0}}, {1<<32 + 300, []byte{172, 2}}, {1<<33 - 1, []byte{255, 255, 255, 255, 15}},
		{7<<32 + 128, []byte{128, 1}}, {math.MaxInt, []byte{255, 255, 255, 255, 15}}, {math.MaxInt - 1, []byte{254, 255, 255, 255, 15}},
		{-1, []byte{255, 255, 255, 255, 15}}, {-2, []byte{254, 255, 255, 255, 15}}, {-1 << 31, []byte{128, 128, 128, 128, 8}},
		{-1 << 32, []byte{0}}, {-1<<32 + 300, []byte{172, 2}}, {-1<<32 - 1, []byte{255, 255, 255, 255, 15}},
		{-1<<32 + 1, []byte{1}}, {math.MinInt, []byte{0}}, {math.MinInt + 5, []byte{5}},
	} {
		var w Writer
		w.Num(c.n)
		if b := w.Bytes(); !bytes.Equal(b, c.b) {
			t.Errorf("Num(%d) wrote %v, not %v", c.n, b, c.b)
		}
	}
}

// 4.1
func TestWriterRaw(t *testing.T) {
	for _, n := range []int{0, 1, 2, 127, 128, 300, 70000} {
		var w Writer
		w.Raw(filled(n))
		if b := w.Bytes(); !bytes.Equal(b, filled(n)) {
			t.Errorf("Raw of %d bytes wrote %d, or others", n, len(b))
		}
	}
	var w Writer
	w.Raw(nil)
	if b := w.Bytes(); len(b) != 0 {
		t.Errorf("Raw of nil wrote %v", b)
	}
}

// 4.1
func TestWriterBlock(t *testing.T) {
	for _, c := range []struct {
		n    int
		size []byte
	}{
		{0, []byte{0}}, {1, []byte{1}}, {2, []byte{2}}, {127, []byte{127}}, {128, []byte{128, 1}}, {300, []byte{172, 2}},
		{1<<14 - 1, []byte{255, 127}}, {1 << 14, []byte{128, 128, 1}}, {70000, []byte{240, 162, 4}},
	} {
		var w Writer
		w.Block(filled(c.n))
		if b := w.Bytes(); !bytes.Equal(b, append(c.size, filled(c.n)...)) {
			t.Errorf("Block of %d bytes wrote %d, or others", c.n, len(b))
		}
	}
	var w Writer
	w.Block(nil)
	if b := w.Bytes(); !bytes.Equal(b, []byte{0}) {
		t.Errorf("Block of nil wrote %v", b)
	}
}

// 4.1: the chapter's first example among them.
func TestWriterSet(t *testing.T) {
	for _, c := range []struct {
		m uint32
		b []byte
	}{
		{0, []byte{0}}, {1, []byte{1, 0}}, {2, []byte{1, 1}}, {13, []byte{3, 0, 2, 3}}, {1 << 31, []byte{1, 31}},
		{1<<31 | 1, []byte{2, 0, 31}}, {0x80008001, []byte{3, 0, 15, 31}}, {1<<31 - 1, append([]byte{31}, below(31)...)},
		{1<<32 - 1, append([]byte{32}, below(32)...)}, {1<<32 - 2, append([]byte{31}, below(32)[1:]...)},
	} {
		var w Writer
		w.Set(c.m)
		if b := w.Bytes(); !bytes.Equal(b, c.b) {
			t.Errorf("Set(%x) wrote %v, not %v", c.m, b, c.b)
		}
	}
}

// 4.1: each call's bytes stand behind those ahead of it; Bytes ends nothing.
func TestWriterGathers(t *testing.T) {
	var w Writer
	want := []byte{}
	for i, c := range []struct {
		write func()
		b     []byte
	}{
		{func() {}, nil},
		{func() { w.Num(300) }, []byte{172, 2}},
		{func() { w.Raw([]byte("ab")) }, []byte("ab")},
		{func() { w.Raw(nil) }, nil},
		{func() { w.Block([]byte("c")) }, []byte("\x01c")},
		{func() { w.Set(13) }, []byte{3, 0, 2, 3}},
		{func() { w.Set(0) }, []byte{0}},
		{func() { w.Block(nil) }, []byte{0}},
		{func() { w.Num(-1) }, []byte{255, 255, 255, 255, 15}},
		{func() { w.Raw(w.Bytes()[:3]) }, []byte{172, 2, 'a'}},
	} {
		c.write()
		want = append(want, c.b...)
		if b := w.Bytes(); !bytes.Equal(b, want) || !bytes.Equal(w.Bytes(), want) {
			t.Errorf("behind write %d stands %v, not %v", i, b, want)
		}
	}
}

// 4.1: two writers have nothing to do with each other.
func TestWritersAreApart(t *testing.T) {
	a, b := new(Writer), new(Writer)
	a.Num(1)
	b.Num(2)
	a.Num(3)
	if !bytes.Equal(a.Bytes(), []byte{1, 3}) || !bytes.Equal(b.Bytes(), []byte{2}) {
		t.Errorf("two writers have %v and %v", a.Bytes(), b.Bytes())
	}
}

// 4.1: what is handed in isn't changed, spare room included, and isn't kept.
func TestWriterLeavesWhatIsHandedIn(t *testing.T) {
	for n := range 6 {
		var w Writer
		b := []byte("abcdef")
		w.Raw(b[:n])
		w.Block(b[:n])
		w.Raw(b[:n])
		w.Num(7)
		if string(b) != "abcdef" {
			t.Errorf("the writer made %q of what it was handed", b)
		}
		had := w.Bytes()
		spoil(b)
		if !bytes.Equal(w.Bytes(), had) {
			t.Errorf("the writer kept the %d bytes that it was handed", n)
		}
	}
}

// 4.1: what is handed out is new memory, spare room included.
func TestBytesAreNewMemory(t *testing.T) {
	for n := range 70 {
		var w Writer
		w.Raw(filled(n))
		a, b := w.Bytes(), w.Bytes()
		spoil(b)
		if !bytes.Equal(a, filled(n)) || !bytes.Equal(w.Bytes(), filled(n)) {
			t.Fatalf("two answers of Bytes, of %d, share memory, or it is the writer's", n)
		}
		spare := append(a, 1, 2, 3)
		w.Raw([]byte{7, 8})
		if !bytes.Equal(a, filled(n)) || !bytes.Equal(spare, append(filled(n), 1, 2, 3)) {
			t.Fatalf("a write behind Bytes, of %d, changed its answer", n)
		}
	}
}

// 4.2
func TestNew(t *testing.T) {
	for _, n := range []int{0, 1, 2, 300, 70000} {
		r := New(filled(n))
		if r.Fault() != (api.Spot{}) || r.Left() != n {
			t.Errorf("a new reader of %d bytes has %v, %d left", n, r.Fault(), r.Left())
		}
	}
	if r := New(nil); r.Fault() != (api.Spot{}) || r.Left() != 0 {
		t.Errorf("a new reader of nil has %v, %d left", r.Fault(), r.Left())
	}
}

// 4.2, 4.3
func TestReaderOfNoBytes(t *testing.T) {
	short, arg := api.Spot{Err: api.ErrShort}, api.Spot{Err: api.ErrArg}
	for _, c := range []struct {
		a ask
		t told
	}{
		{ask{"num", 0}, told{fault: short}}, {ask{"num", -1}, told{fault: short}}, {ask{"num", 1<<32 - 1}, told{fault: short}},
		{ask{"raw", 0}, told{}}, {ask{"raw", 1}, told{fault: short}}, {ask{"raw", math.MaxInt}, told{fault: short}},
		{ask{"raw", -1}, told{fault: arg}}, {ask{"raw", math.MinInt}, told{fault: arg}},
		{ask{"block", 0}, told{fault: short}}, {ask{"block", 9}, told{fault: short}},
		{ask{"set", -1}, told{fault: short}}, {ask{"set", 0}, told{fault: short}}, {ask{"set", 32}, told{fault: short}},
		{ask{"done", 0}, told{done: true}},
	} {
		for _, b := range [][]byte{nil, {}} {
			if got := c.a.do(New(b)); got != c.t {
				t.Errorf("of no bytes %v told %#v, not %#v", c.a, got, c.t)
			}
		}
	}
}

// 4.2
func TestReaderNum(t *testing.T) {
	short, long, form := api.Spot{Err: api.ErrShort}, api.Spot{Err: api.ErrLong}, api.Spot{Err: api.ErrForm}
	for _, c := range []struct {
		b    []byte
		most int
		t    told
	}{
		{[]byte{0}, 0, told{}},
		{[]byte{0, 9}, math.MaxInt, told{left: 1}},
		{[]byte{5}, 5, told{num: 5}},
		{[]byte{172, 2, 7, 8}, 300, told{num: 300, left: 2}},
		{[]byte{255, 255, 255, 255, 15}, 1<<32 - 1, told{num: 1<<32 - 1}},
		{[]byte{255, 255, 255, 255, 15, 0}, math.MaxInt, told{num: 1<<32 - 1, left: 1}},
		{[]byte{128, 128, 128, 128, 8}, 1 << 31, told{num: 1 << 31}},

		// above the greatest one
		{[]byte{0}, -1, told{fault: long, left: 1}},
		{[]byte{0}, math.MinInt, told{fault: long, left: 1}},
		{[]byte{1}, 0, told{fault: long, left: 1}},
		{[]byte{5, 1}, 4, told{fault: long, left: 2}},
		{[]byte{172, 2, 7}, 299, told{fault: long, left: 3}},
		{[]byte{255, 255, 255, 255, 15}, 1<<32 - 2, told{fault: long, left: 5}},
		{[]byte{255, 255, 255, 255, 15}, 0, told{fault: long, left: 5}},
		{[]byte{255, 255, 255, 255, 15}, -1, told{fault: long, left: 5}},

		// what chapter 1 refuses, whatever the greatest one is
		{[]byte{128}, 300, told{fault: short, left: 1}},
		{[]byte{255, 255, 255, 255}, -1, told{fault: short, left: 4}},
		{[]byte{128, 0}, 300, told{fault: form, left: 2}},
		{[]byte{200, 128, 0, 1}, -1, told{fault: form, left: 4}},
		{[]byte{255, 255, 255, 255, 16}, math.MaxInt, told{fault: long, left: 5}},
		{[]byte{128, 128, 128, 128, 128, 0}, math.MaxInt, told{fault: long, left: 6}},
	} {
		if got := (ask{"num", c.most}).do(New(c.b)); got != c.t {
			t.Errorf("of %v Num(%d) told %#v, not %#v", c.b, c.most, got, c.t)
		}
	}
}

// 4.2
func TestReaderRaw(t *testing.T) {
	short, arg := api.Spot{Err: api.ErrShort}, api.Spot{Err: api.ErrArg}
	for _, c := range []struct {
		b string
		n int
		t told
	}{
		{"abc", 0, told{left: 3}}, {"abc", 1, told{bytes: "a", left: 2}}, {"abc", 3, told{bytes: "abc"}}, {"\x00\xff", 2, told{bytes: "\x00\xff"}},
		{"abc", 4, told{fault: short, left: 3}}, {"abc", math.MaxInt, told{fault: short, left: 3}}, {"abc", 1<<32 + 1, told{fault: short, left: 3}},
		{"abc", -1, told{fault: arg, left: 3}}, {"abc", -3, told{fault: arg, left: 3}}, {"abc", math.MinInt, told{fault: arg, left: 3}},
	} {
		if got := (ask{"raw", c.n}).do(New([]byte(c.b))); got != c.t {
			t.Errorf("of %q Raw(%d) told %#v, not %#v", c.b, c.n, got, c.t)
		}
	}
}

// 4.2: a fault is where the number begins, or behind it, where too few bytes are left.
func TestReaderBlock(t *testing.T) {
	short, long, form := api.Spot{Err: api.ErrShort}, api.Spot{Err: api.ErrLong}, api.Spot{Err: api.ErrForm}
	for _, c := range []struct {
		b    string
		most int
		t    told
	}{
		{"\x00", 0, told{}}, {"\x00a", 9, told{left: 1}}, {"\x02ab", 2, told{bytes: "ab"}}, {"\x02abc", 9, told{bytes: "ab", left: 1}},
		{"\x01\x00", math.MaxInt, told{bytes: "\x00"}},

		{"", 9, told{fault: short}}, {"\x80", 9, told{fault: short, left: 1}}, {"\x80\x00", 9, told{fault: form, left: 2}},
		{"\x02ab", 1, told{fault: long, left: 3}}, {"\x00", -1, told{fault: long, left: 1}}, {"\x09ab", 8, told{fault: long, left: 3}},

		{"\x03ab", 9, told{fault: api.Spot{At: 1, Err: api.ErrShort}, left: 2}},
		{"\x01", 1, told{fault: api.Spot{At: 1, Err: api.ErrShort}}},
		{"\xac\x02ab", 300, told{fault: api.Spot{At: 2, Err: api.ErrShort}, left: 2}},
		{"\xff\xff\xff\xff\x0fab", math.MaxInt, told{fault: api.Spot{At: 5, Err: api.ErrShort}, left: 2}},
	} {
		if got := (ask{"block", c.most}).do(New([]byte(c.b))); got != c.t {
			t.Errorf("of %q Block(%d) told %#v, not %#v", c.b, c.most, got, c.t)
		}
	}
	long300 := append([]byte{172, 2}, filled(301)...)
	if got, want := (ask{"block", 300}).do(New(long300)), (told{bytes: string(filled(300)), left: 1}); got != want {
		t.Errorf("of 301 bytes behind 300 Block told %d, %v, %d left", len(got.bytes), got.fault, got.left)
	}
}

// 4.2: each call reads from where the one ahead of it stood, and a fault is counted from the beginning of all.
func TestReaderGoesOn(t *testing.T) {
	r := New([]byte("\xac\x02\x02abc\x03\x00\x02\x03\x05"))
	for i, c := range []struct {
		a ask
		t told
	}{
		{ask{"num", 300}, told{num: 300, left: 9}},
		{ask{"raw", 0}, told{left: 9}},
		{ask{"block", 2}, told{bytes: "ab", left: 6}},
		{ask{"raw", 1}, told{bytes: "c", left: 5}},
		{ask{"set", 4}, told{set: 13, left: 1}},
		{ask{"num", 4}, told{fault: api.Spot{At: 10, Err: api.ErrLong}, left: 1}},
		{ask{"num", 5}, told{fault: api.Spot{At: 10, Err: api.ErrLong}, left: 1}},
	} {
		if got := c.a.do(r); got != c.t {
			t.Errorf("call %d, %v, told %#v, not %#v", i, c.a, got, c.t)
		}
	}
}

// 4.2, 4.3: with a fault nothing is read any more, and the first one stays, and so does the reader.
func TestTheFirstFaultStays(t *testing.T) {
	b := []byte{1, 'x', 2, 0, 0, 128, 0, 3, 9, 1, 2}
	for _, first := range []struct {
		asks  []ask
		fault api.Spot
	}{
		{[]ask{{"num", 0}}, api.Spot{At: 0, Err: api.ErrLong}},
		{[]ask{{"raw", 5}, {"num", 300}}, api.Spot{At: 5, Err: api.ErrForm}},
		{[]ask{{"raw", 11}, {"num", 300}}, api.Spot{At: 11, Err: api.ErrShort}},
		{[]ask{{"raw", 12}}, api.Spot{At: 0, Err: api.ErrShort}},
		{[]ask{{"raw", 1}, {"raw", -1}}, api.Spot{At: 1, Err: api.ErrArg}},
		{[]ask{{"raw", 2}, {"block", 1}}, api.Spot{At: 2, Err: api.ErrLong}},
		{[]ask{{"raw", 8}, {"block", 9}}, api.Spot{At: 9, Err: api.ErrShort}},
		{[]ask{{"raw", 1}, {"set", 9}}, api.Spot{At: 1, Err: api.ErrLong}},
		{[]ask{{"raw", 2}, {"set", 9}}, api.Spot{At: 4, Err: api.ErrOrder}},
		{[]ask{{"raw", 7}, {"set", 9}}, api.Spot{At: 8, Err: api.ErrLong}},
		{[]ask{{"raw", 9}, {"set", 9}, {"set", 9}}, api.Spot{At: 11, Err: api.ErrShort}},
		{[]ask{{"block", 9}, {"done", 0}}, api.Spot{At: 2, Err: api.ErrLeft}},
	} {
		for _, behind := range everyAsk() {
			r := New(b)
			for _, a := range first.asks {
				a.do(r)
			}
			want := told{fault: first.fault, left: len(b) - first.fault.At}
			for _, a := range append([]ask{behind}, everyAsk()...) {
				if got := a.do(r); got != want {
					t.Fatalf("behind %v and a fault %v told %#v, not %#v", first.asks, a, got, want)
				}
			}
		}
	}
}

// 4.2: what is handed in isn't changed, spare room included, and isn't kept.
func TestReaderLeavesWhatIsHandedIn(t *testing.T) {
	b := []byte("\x02ab\x01\x05\x01\x02cdefgh")
	r := New(b[:9])
	had := string(b)
	read := func() {
		if s := string(r.Block(9)); s != "ab" {
			t.Errorf("Block answered %q", s)
		}
		if m := r.Set(9); m != 32 {
			t.Errorf("Set answered %d", m)
		}
		if n := r.Num(9); n != 1 {
			t.Errorf("Num answered %d", n)
		}
		if s := string(r.Raw(3)); s != "\x02cd" || !r.Done() || r.Left() != 0 {
			t.Errorf("Raw answered %q", s)
		}
	}
	read()
	if string(b) != had {
		t.Errorf("the reader made %q of what it was handed", b)
	}
	r = New(b[:9])
	spoil(b)
	read()
}

// 4.2: what is handed out is new memory, spare room included.
func TestWhatIsReadIsNewMemory(t *testing.T) {
	for n := range 40 {
		b := append([]byte{byte(n)}, filled(n)...)
		b = append(b, b...)
		r := New(append(b, filled(9)...))
		block := r.Block(n)
		spoil(r.Raw(1))
		raw := r.Raw(n)
		spoil(block)
		if !bytes.Equal(raw, filled(n)) {
			t.Fatalf("Block and Raw of %d bytes share memory", n)
		}
		spoil(raw)
		if rest := r.Raw(9); !bytes.Equal(rest, filled(9)) {
			t.Fatalf("what Block and Raw of %d bytes answer is the reader's", n)
		}
	}
}

// 4.3: the chapter's second example among them.
func TestReaderSet(t *testing.T) {
	all := append([]byte{32}, below(32)...)
	spot := func(at int, e api.Errno) api.Spot { return api.Spot{At: at, Err: e} }
	for _, c := range []struct {
		b    []byte
		size int
		t    told
	}{
		{[]byte{0}, 0, told{}}, {[]byte{0}, 4, told{}}, {[]byte{0, 1}, 32, told{left: 1}}, {[]byte{0}, -1, told{}},
		{[]byte{0}, math.MinInt, told{}}, {[]byte{0}, math.MaxInt, told{}},
		{[]byte{1, 0}, 1, told{set: 1}}, {[]byte{1, 3}, 4, told{set: 8}}, {[]byte{3, 0, 2, 3}, 4, told{set: 13}},
		{[]byte{3, 0, 2, 3, 3}, 9, told{set: 13, left: 1}}, {[]byte{4, 0, 1, 2, 3}, 4, told{set: 15}},
		{[]byte{1, 31}, 32, told{set: 1 << 31}}, {[]byte{2, 0, 31}, 33, told{set: 1<<31 | 1}}, {[]byte{1, 31}, math.MaxInt, told{set: 1 << 31}},
		{all, 32, told{set: 1<<32 - 1}}, {all, 33, told{set: 1<<32 - 1}}, {all, 64, told{set: 1<<32 - 1}}, {all, 1 << 32, told{set: 1<<32 - 1}},
		{append([]byte{31}, below(31)...), 31, told{set: 1<<31 - 1}},

		// how many: above the size, or no number
		{[]byte{1, 0}, 0, told{fault: spot(0, api.ErrLong), left: 2}}, {[]byte{1, 0}, -1, told{fault: spot(0, api.ErrLong), left: 2}},
		{[]byte{1, 0}, math.MinInt, told{fault: spot(0, api.ErrLong), left: 2}},
		{[]byte{5, 0, 1, 2, 3, 4}, 4, told{fault: spot(0, api.ErrLong), left: 6}},
		{all, 31, told{fault: spot(0, api.ErrLong), left: 33}},
		{append([]byte{33}, below(33)...), 33, told{fault: spot(0, api.ErrLong), left: 34}},
		{append([]byte{33}, below(33)...), math.MaxInt, told{fault: spot(0, api.ErrLong), left: 34}},
		{[]byte{128}, 9, told{fault: spot(0, api.ErrShort), left: 1}}, {[]byte{129, 0}, 9, told{fault: spot(0, api.ErrForm), left: 2}},

		// an id: above the greatest one, or no number
		{[]byte{1, 4}, 4, told{fault: spot(1, api.ErrLong), left: 1}}, {[]byte{1, 1}, 1, told{fault: spot(1, api.ErrLong), left: 1}},
		{[]byte{1, 32}, 32, told{fault: spot(1, api.ErrLong), left: 1}}, {[]byte{1, 32}, 33, told{fault: spot(1, api.ErrLong), left: 1}},
		{[]byte{1, 32}, math.MaxInt, told{fault: spot(1, api.ErrLong), left: 1}}, {[]byte{1, 31}, 31, told{fault: spot(1, api.ErrLong), left: 1}},
		{[]byte{1, 255, 255, 255, 255, 16}, 9, told{fault: spot(1, api.ErrLong), left: 5}},
		{[]byte{2, 1, 9}, 9, told{fault: spot(2, api.ErrLong), left: 1}},
		{[]byte{1}, 4, told{fault: spot(1, api.ErrShort)}}, {[]byte{2, 1}, 4, told{fault: spot(2, api.ErrShort)}},
		{[]byte{2, 1, 130}, 4, told{fault: spot(2, api.ErrShort), left: 1}}, {[]byte{2, 1, 130, 0}, 4, told{fault: spot(2, api.ErrForm), left: 2}},
		{all[:32], 32, told{fault: spot(32, api.ErrShort)}},

		// an id that isn't greater than the one ahead of it
		{[]byte{2, 1, 1}, 9, told{fault: spot(2, api.ErrOrder), left: 1}}, {[]byte{2, 0, 0}, 2, told{fault: spot(2, api.ErrOrder), left: 1}},
		{[]byte{2, 3, 0, 7}, 4, told{fault: spot(2, api.ErrOrder), left: 2}}, {[]byte{3, 0, 2, 1}, 4, told{fault: spot(3, api.ErrOrder), left: 1}},
		{[]byte{2, 31, 31}, 32, told{fault: spot(2, api.ErrOrder), left: 1}}, {[]byte{3, 0, 31, 30}, 99, told{fault: spot(3, api.ErrOrder), left: 1}},
	} {
		if got := (ask{"set", c.size}).do(New(c.b)); got != c.t {
			t.Errorf("of %v Set(%d) told %#v, not %#v", c.b, c.size, got, c.t)
		}
	}
}

// 4.3: the fault that is met first is the one.
func TestWhichFaultOfASetIsMetFirst(t *testing.T) {
	for _, c := range []struct {
		b []byte
		s api.Spot
	}{
		{[]byte{5, 9}, api.Spot{At: 0, Err: api.ErrLong}},         // too many, ahead of the id
		{[]byte{3, 2, 1, 9}, api.Spot{At: 2, Err: api.ErrOrder}},  // the order, ahead of a later id
		{[]byte{3, 2, 9, 1}, api.Spot{At: 2, Err: api.ErrLong}},   // the id, ahead of a later order
		{[]byte{3, 2, 2}, api.Spot{At: 2, Err: api.ErrOrder}},     // the order, ahead of the end
		{[]byte{3, 2, 128, 0}, api.Spot{At: 2, Err: api.ErrForm}}, // no number, though it would be 0
		{[]byte{3, 9, 9, 9}, api.Spot{At: 1, Err: api.ErrLong}},   // the first of several
		{[]byte{4, 3, 2, 1, 0}, api.Spot{At: 2, Err: api.ErrOrder}},
		{[]byte{2, 3, 130, 130, 130}, api.Spot{At: 2, Err: api.ErrShort}}, // the end, ahead of the size
	} {
		want := told{fault: c.s, left: len(c.b) - c.s.At}
		if got := (ask{"set", 4}).do(New(c.b)); got != want {
			t.Errorf("of %v Set(4) told %#v, not %#v", c.b, got, want)
		}
	}
}

// 4.3
func TestDone(t *testing.T) {
	for _, c := range []struct {
		b    string
		asks []ask
		t    told
	}{
		{"", nil, told{done: true}},
		{"\x05", []ask{{"num", 9}}, told{done: true}},
		{"\x02ab", []ask{{"block", 9}}, told{done: true}},
		{"", []ask{{"done", 0}, {"raw", 0}, {"done", 0}}, told{done: true}},
		{"a", nil, told{fault: api.Spot{Err: api.ErrLeft}, left: 1}},
		{"\x05a", []ask{{"num", 9}}, told{fault: api.Spot{At: 1, Err: api.ErrLeft}, left: 1}},
		{"abcdef", []ask{{"raw", 2}}, told{fault: api.Spot{At: 2, Err: api.ErrLeft}, left: 4}},
		{"a", []ask{{"done", 0}, {"raw", 1}}, told{fault: api.Spot{Err: api.ErrLeft}, left: 1}}, // what is left over isn't read any more
		{"", []ask{{"raw", 1}}, told{fault: api.Spot{Err: api.ErrShort}}},                       // nothing is left, but there is a fault
		{"\x03", []ask{{"block", 9}}, told{fault: api.Spot{At: 1, Err: api.ErrShort}}},
		{"\x05a", []ask{{"num", 4}}, told{fault: api.Spot{Err: api.ErrLong}, left: 2}}, // something is left, but there is another fault
		{"\x05a", []ask{{"done", 0}, {"num", 4}}, told{fault: api.Spot{Err: api.ErrLeft}, left: 2}},
	} {
		r := New([]byte(c.b))
		for _, a := range c.asks {
			a.do(r)
		}
		for range 3 {
			if got := (ask{"done", 0}).do(r); got != c.t {
				t.Errorf("of %q, behind %v, Done told %#v, not %#v", c.b, c.asks, got, c.t)
			}
		}
	}
}

// 4.2, 4.3: all rows of up to two calls, on all rows of up to four bytes at an edge.
func TestAsTheChapterTells(t *testing.T) {
	var grow func(b []byte)
	grow = func(b []byte) {
		for _, first := range everyAsk() {
			for _, second := range everyAsk() {
				checkAsks(t, b, first, second)
			}
		}
		if len(b) == 4 {
			return
		}
		for _, x := range []byte{0, 1, 2, 3, 4, 127, 128, 130, 255} {
			grow(append(b[:len(b):len(b)], x))
		}
	}
	grow(nil)
}

// 4.3: all rows of up to six small bytes, and all small sizes.
func TestSetAsTheChapterTells(t *testing.T) {
	var grow func(b []byte)
	grow = func(b []byte) {
		for size := -1; size <= 5; size++ {
			checkAsks(t, b, ask{"set", size}, ask{"done", 0})
		}
		if len(b) == 6 {
			return
		}
		for x := range 5 {
			grow(append(b[:len(b):len(b)], byte(x)))
		}
	}
	grow(nil)
}

// 4.3: sets at the edge of what may be an id.
func TestSetAtTheEdge(t *testing.T) {
	sizes := []int{math.MinInt, -33, -32, -1, 0, 1, 2, 15, 16, 17, 30, 31, 32, 33, 63, 64, 1<<32 - 1, 1 << 32, 1<<32 + 1, math.MaxInt}
	for _, size := range sizes {
		for n := range 35 {
			full := append([]byte{byte(n)}, below(n)...)
			checkAsks(t, full, ask{"set", size}, ask{"done", 0})
			checkAsks(t, full[:len(full)-1], ask{"set", size}, ask{"done", 0})
			checkAsks(t, append(full, 1), ask{"set", size}, ask{"done", 0})
			checkAsks(t, []byte{1, byte(n)}, ask{"set", size}, ask{"done", 0})
			checkAsks(t, []byte{2, byte(n), 31}, ask{"set", size}, ask{"done", 0})
			checkAsks(t, []byte{2, byte(n), byte(n)}, ask{"set", size}, ask{"done", 0})
			checkAsks(t, []byte{2, 30, byte(n)}, ask{"set", size}, ask{"done", 0})
		}
	}
}

// entry is something that was written, and how it is read.
type entry struct {
	write func(w *Writer)
	a     ask
	t     told // but for how many are left
}

// entries are many things that may be written, edges among them.
func entries() []entry {
	l := []entry{}
	for _, n := range []int{0, 1, 127, 128, 300, 1<<14 - 1, 1 << 14, 1 << 21, 1 << 28, 1<<31 - 1, 1 << 31, 1<<32 - 2, 1<<32 - 1} {
		for _, most := range []int{n, 1<<32 - 1, math.MaxInt} {
			l = append(l, entry{func(w *Writer) { w.Num(n) }, ask{"num", most}, told{num: n}})
		}
	}
	for _, n := range []int{0, 1, 2, 127, 128, 129, 300} {
		b := filled(n)
		l = append(l, entry{func(w *Writer) { w.Raw(b) }, ask{"raw", n}, told{bytes: string(b)}})
		for _, most := range []int{n, n + 1, math.MaxInt} {
			l = append(l, entry{func(w *Writer) { w.Block(b) }, ask{"block", most}, told{bytes: string(b)}})
		}
	}
	x := uint32(1)
	for _, m := range []uint32{0, 1, 2, 13, 1 << 15, 1 << 30, 1<<31 - 1, 1 << 31, 1<<31 | 1, 0x55555555, 1<<32 - 1} {
		x = x*1664525 + 1013904223
		for _, m := range []uint32{m, x} {
			l = append(l, entry{func(w *Writer) { w.Set(m) }, ask{"set", 32}, told{set: m}})
			l = append(l, entry{func(w *Writer) { w.Set(m) }, ask{"set", math.MaxInt}, told{set: m}})
		}
	}
	return l
}

// 4.4: one by one, whatever stands behind.
func TestWhatIsWrittenIsRead(t *testing.T) {
	for i, e := range entries() {
		for _, behind := range [][]byte{nil, {0}, {1}, {127}, {128}, {255, 255, 255, 255, 255}} {
			var w Writer
			e.write(&w)
			r := New(append(w.Bytes(), behind...))
			want := e.t
			want.left = len(behind)
			if got := e.a.do(r); got != want {
				t.Fatalf("entry %d, %v, told %#v, not %#v", i, e.a, got, want)
			}
			if r.Done() != (len(behind) == 0) {
				t.Fatalf("behind entry %d, %v, %d bytes are left, and Done tells otherwise", i, e.a, len(behind))
			}
		}
	}
}

// 4.4: call by call.
func TestWhatIsWrittenIsReadCallByCall(t *testing.T) {
	l := entries()
	x := uint32(7)
	for range 300 {
		row := []entry{}
		for range 12 {
			x = x*1664525 + 1013904223
			row = append(row, l[int(x>>8)%len(l)])
		}
		checkRow(t, row)
	}
	checkRow(t, l)
	slices.Reverse(l)
	checkRow(t, l)
}

func checkRow(t *testing.T, row []entry) {
	t.Helper()
	var w Writer
	ends := []int{}
	for _, e := range row {
		e.write(&w)
		ends = append(ends, len(w.Bytes()))
	}
	r := New(w.Bytes())
	for i, e := range row {
		want := e.t
		want.left = len(w.Bytes()) - ends[i]
		if got := e.a.do(r); got != want {
			t.Fatalf("entry %d, %v, told %#v, not %#v", i, e.a, got, want)
		}
	}
	if !r.Done() || r.Fault() != (api.Spot{}) {
		t.Fatalf("behind all that was written, the reader has the fault %v", r.Fault())
	}
}

// 4.4: the set of every size's greatest ids is read with that size, and with no smaller one.
func TestSetsAreReadWithTheirSize(t *testing.T) {
	for id := range 32 {
		for _, m := range []uint32{value(id), value(0) | value(id)} {
			var w Writer
			w.Set(m)
			r := New(w.Bytes())
			if got := r.Set(id + 1); got != m || !r.Done() {
				t.Errorf("Set(%d) of %x = %x, %v", id+1, m, got, r.Fault())
			}
			r = New(w.Bytes())
			if got := r.Set(id); got != 0 || r.Fault().Err != api.ErrLong || r.Done() {
				t.Errorf("Set(%d) of %x = %x, %v", id, m, got, r.Fault())
			}
		}
	}
}
