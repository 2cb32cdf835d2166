package wit

import (
	"bytes"
	"math"
	"slices"
	"strings"
	"testing"

	"alibi/api"
	"alibi/script"
	"alibi/seek"
)

// two is a program of two threads; both write the global 1, the first one behind a branch, the other one at once.
func two(t *testing.T) api.Program {
	t.Helper()
	return parsed(t, "alibi 2 0 1\nfunc\nspawn 1 0 1\nbranch 2 3\nwrite 1 3\nreturn\nfunc\nwrite 1 1\nread 0 2\nreturn\n")
}

// many is a program of eight threads, each at one access to the global 15, all but the first one once they were begun.
func many(t *testing.T, kind string) api.Program {
	t.Helper()
	return parsed(t, "alibi 16 0 1\nfunc\nspawn 1 0 1\nspawn 1 0 2\nspawn 1 0 3\nspawn 1 0 4\nspawn 1 0 5\nspawn 1 0 6\nspawn 1 0 7\nread 15 7\nfunc\n"+kind+" 15 0\n")
}

// 13.1: by hand; the chapter's example is the first one.
func TestBytesByHand(t *testing.T) {
	for _, c := range []struct {
		w api.Witness
		b string
	}{
		{api.Witness{B: 1, Global: 2}, "alw1\x00\x00\x01\x02"},
		{api.Witness{A: 1}, "alw1\x00\x01\x00\x00"},
		{api.Witness{A: 7, B: 6, Global: 15}, "alw1\x00\x07\x06\x0f"},
		{api.Witness{A: 6, B: 7, Global: 15}, "alw1\x00\x06\x07\x0f"},
		{api.Witness{Picks: picks(0), A: 3, B: 4, Global: 5}, "alw1\x01\x00\x03\x04\x05"},
		{api.Witness{Picks: picks(7, 15, 8, 3), A: 3, B: 2, Global: 9}, "alw1\x04\x07\x0f\x08\x03\x03\x02\x09"},
		{api.Witness{Picks: make([]api.Pick, 127), B: 1}, "alw1\x7f" + strings.Repeat("\x00", 127) + "\x00\x01\x00"},
		{api.Witness{Picks: make([]api.Pick, 128), B: 1}, "alw1\x80\x01" + strings.Repeat("\x00", 128) + "\x00\x01\x00"},
		{api.Witness{Picks: make([]api.Pick, 300), A: 1}, "alw1\xac\x02" + strings.Repeat("\x00", 300) + "\x01\x00\x00"},
		{api.Witness{Picks: make([]api.Pick, 4096), A: 1}, "alw1\x80\x20" + strings.Repeat("\x00", 4096) + "\x01\x00\x00"},
	} {
		if e := Check(c.w); e != api.OK {
			t.Errorf("Check(%v) = %d", c.w, e)
		}
		if b, e := Write(c.w); string(b) != c.b || e != api.OK {
			t.Errorf("Write(%v) = %x, %d, not %x", c.w, b, e, c.b)
		}
		if w, s := Read([]byte(c.b)); !alike(w, c.w) || s != (api.Spot{}) {
			t.Errorf("Read(%x) = %v, %v, not %v", c.b, w, s, c.w)
		}
	}
}

// 13.1: all threads and globals, and those about them.
func TestEveryThreadAndGlobal(t *testing.T) {
	for a := -2; a < 18; a++ {
		for b := -2; b < 18; b++ {
			for g := -2; g < 34; g++ {
				w := api.Witness{A: a, B: b, Global: g}
				checkWrite(t, w)
				w.Picks = picks(5, 12)
				checkWrite(t, w)
			}
		}
	}
}

// 13.1: numbers of nothing, one of them, or several.
func TestCheckOfNowhere(t *testing.T) {
	for _, n := range nowhere() {
		for _, w := range []api.Witness{
			{A: n, B: 1, Global: 2}, {A: 1, B: n, Global: 2}, {A: 1, B: 2, Global: n},
			{A: n, B: n, Global: 2}, {A: n, B: 1, Global: n}, {A: 1, B: 1, Global: n}, {A: n, B: n, Global: n},
			{Picks: []api.Pick{{Who: n}}, A: 1, B: 2}, {Picks: []api.Pick{{}, {Who: n, Way: true}}, A: 1, B: 2},
		} {
			if e := checkWrite(t, w); e != api.ErrArg {
				t.Errorf("Check(%v) = %d", w, e)
			}
			if holds, e := Holds(two(t), w); holds || e != api.ErrArg {
				t.Errorf("Holds(%v) = %v, %d", w, holds, e)
			}
		}
	}
	for who := range 8 {
		if e := checkWrite(t, api.Witness{A: who, B: who}); e != api.ErrArg {
			t.Errorf("Check of %d twice = %d", who, e)
		}
	}
}

// 13.1: more picks than a script has are told ahead of all else.
func TestCheckOfManyPicks(t *testing.T) {
	for _, size := range []int{0, 1, 4095, 4096, 4097, 4098, 8192, 70000} {
		for _, c := range []struct{ who, a int }{{0, 0}, {7, 0}, {8, 0}, {0, 1}, {-1, 8}} {
			l := make([]api.Pick, size)
			if size > 0 {
				l[size-1].Who = c.who
			}
			want := api.OK
			switch {
			case size > 4096:
				want = api.ErrLong
			case size > 0 && (c.who < 0 || c.who > 7), c.a != 0:
				want = api.ErrArg
			}
			w := api.Witness{Picks: l, A: c.a, B: 1}
			if e := checkWrite(t, w); e != want {
				t.Errorf("Check of %d picks, %v: %d, not %d", size, c, e, want)
			}
		}
	}
}

// 13.2: which fault is met first, and where.
func TestReadOfWrongBytes(t *testing.T) {
	for _, c := range []struct {
		b  string
		at int
		e  api.Errno
	}{
		// fewer than four bytes, whatever they are
		{"", 0, api.ErrShort}, {"a", 0, api.ErrShort}, {"alw", 0, api.ErrShort}, {"x", 0, api.ErrShort}, {"lw1", 0, api.ErrShort},

		// four bytes that aren't the first four, whatever is behind them
		{"alw2", 0, api.ErrForm}, {"alw\x01", 0, api.ErrForm}, {"alp1", 0, api.ErrForm}, {"axw1", 0, api.ErrForm}, {"xlw1", 0, api.ErrForm}, {"ALW1", 0, api.ErrForm},
		{"\x00alw1", 0, api.ErrForm}, {"alw0\x00\x00\x01\x02", 0, api.ErrForm}, {"alw2\xff\xff\xff\xff\xff", 0, api.ErrForm}, {"alc1\x00\x00\x01\x02x", 0, api.ErrForm},

		// too few bytes behind them
		{"alw1", 4, api.ErrShort}, {"alw1\x80", 4, api.ErrShort}, {"alw1\x00", 5, api.ErrShort}, {"alw1\x00\x00", 6, api.ErrShort}, {"alw1\x00\x00\x01", 7, api.ErrShort},
		{"alw1\x01", 5, api.ErrShort}, {"alw1\x03\x00\x00", 5, api.ErrShort}, {"alw1\x80\x01\x00\x00\x00", 6, api.ErrShort}, {"alw1\x80\x20\x00\x00\x00", 6, api.ErrShort},
		{"alw1\x01\x00\x00\x01", 8, api.ErrShort}, {"alw1\x00\x00\x01\x80", 7, api.ErrShort}, {"alw1\x04\x00\x01\x02", 5, api.ErrShort},

		// too great a number
		{"alw1\x81\x20", 4, api.ErrLong}, {"alw1\xff\xff\xff\xff\x10", 4, api.ErrLong}, {"alw1\xff\xff\xff\xff\x0f", 4, api.ErrLong},
		{"alw1\x00\x08", 5, api.ErrLong}, {"alw1\x00\x00\x08", 6, api.ErrLong}, {"alw1\x00\x00\x01\x10", 7, api.ErrLong}, {"alw1\x00\x00\x01\x80\x80\x80\x80\x08", 7, api.ErrLong},
		{"alw1\x00\x08\x08\x10x", 5, api.ErrLong}, {"alw1\x00\x01\x08\x10x", 6, api.ErrLong}, {"alw1\x00\x01\x01\x10x", 7, api.ErrLong},

		// more bytes of a number than are needed
		{"alw1\x80\x00\x00\x01\x02", 4, api.ErrForm}, {"alw1\x00\x80\x00\x01\x02", 5, api.ErrForm}, {"alw1\x00\x00\x81\x00\x02", 6, api.ErrForm}, {"alw1\x00\x00\x01\x82\x00", 7, api.ErrForm},

		// something left over, whatever is wrong with the script or the threads
		{"alw1\x00\x00\x01\x00\x00", 8, api.ErrLeft}, {"alw1\x00\x01\x01\x00x", 8, api.ErrLeft}, {"alw1\x01\x10\x00\x01\x00xyz", 9, api.ErrLeft}, {"alw1\x01\x10\x01\x01\x00x", 9, api.ErrLeft},

		// a fault of the reader ahead of the script's
		{"alw1\x01\x10", 6, api.ErrShort}, {"alw1\x01\x10\x08", 6, api.ErrLong}, {"alw1\x01\xff\x00\x01\x80\x00", 8, api.ErrForm},

		// the script's bytes, behind all, ahead of the threads
		{"alw1\x01\x10\x00\x01\x00", 9, api.ErrForm}, {"alw1\x01\x10\x01\x01\x00", 9, api.ErrForm}, {"alw1\x03\x0f\xff\x10\x00\x01\x00", 11, api.ErrForm}, {"alw1\x02\x00\x10\x07\x07\x0f", 10, api.ErrForm},

		// no unlike threads
		{"alw1\x00\x00\x00\x00", 8, api.ErrArg}, {"alw1\x00\x07\x07\x0f", 8, api.ErrArg}, {"alw1\x02\x00\x0f\x03\x03\x04", 10, api.ErrArg},
	} {
		want := api.Spot{At: c.at, Err: c.e}
		if w, s := Read([]byte(c.b)); s != want || !isNone(w) {
			t.Errorf("Read(%x) = %v, %v, not %v", c.b, w, s, want)
		}
		checkRead(t, []byte(c.b))
	}
}

// 13.2: blocks up to 4096 bytes, each whole, with too few bytes, or with one too many.
func TestReadOfBlocks(t *testing.T) {
	for _, size := range []int{0, 1, 2, 126, 127, 128, 129, 4095, 4096} {
		l := make([]api.Pick, size)
		for i := range l {
			l[i] = api.Pick{Who: i % 8, Way: i%16 > 7}
		}
		b := writeByHand(api.Witness{Picks: l, A: 5, B: 2, Global: 11})
		if s := checkRead(t, b); s != (api.Spot{}) {
			t.Errorf("of %d picks: %v", size, s)
		}
		for _, less := range []int{1, 2, 3, 4, 5} {
			if s := checkRead(t, b[:len(b)-less]); s.Err != api.ErrShort {
				t.Errorf("of %d picks, %d bytes less: %v", size, less, s)
			}
		}
		if s := checkRead(t, append(b, 0)); s != (api.Spot{At: len(b), Err: api.ErrLeft}) {
			t.Errorf("of %d picks, and a byte: %v", size, s)
		}
		for _, at := range []int{0, size / 2, size - 1} {
			if size > 0 {
				c := slices.Clone(b)
				c[len(b)-3-size+at] = 16
				if s := checkRead(t, c); s != (api.Spot{At: len(b), Err: api.ErrForm}) {
					t.Errorf("of %d picks, the one at %d of 16: %v", size, at, s)
				}
			}
		}
	}
	for _, size := range []int{4097, 8192, 70000} {
		b := writeByHand(api.Witness{Picks: make([]api.Pick, size), B: 1})
		if s := checkRead(t, b); s != (api.Spot{At: 4, Err: api.ErrLong}) {
			t.Errorf("of %d picks: %v", size, s)
		}
	}
}

// 13.2, 13.4: each byte of some witnesses changed to every other one, left out, or told twice.
func TestReadOfEachByteChanged(t *testing.T) {
	met := map[api.Errno]int{}
	for _, w := range []api.Witness{
		{B: 1, Global: 2}, {A: 7, B: 6, Global: 15}, {Picks: picks(0, 9, 15), A: 2, B: 1}, {Picks: make([]api.Pick, 130), A: 3, B: 4, Global: 5},
	} {
		b := writeByHand(w)
		for at := range b {
			for x := range 256 {
				c := slices.Clone(b)
				c[at] = byte(x)
				met[checkRead(t, c).Err]++
			}
			met[checkRead(t, slices.Delete(slices.Clone(b), at, at+1)).Err]++
			met[checkRead(t, slices.Insert(slices.Clone(b), at, b[at])).Err]++
			met[checkRead(t, slices.Insert(slices.Clone(b), at, b[at]|128)).Err]++
			met[checkRead(t, b[:at]).Err]++
		}
	}
	for _, e := range []api.Errno{api.OK, api.ErrArg, api.ErrShort, api.ErrForm, api.ErrLong, api.ErrLeft} {
		if met[e] < 3 {
			t.Errorf("Read answered %d only %d times", e, met[e])
		}
	}
}

// 13.2, 13.4: all rows of up to six bytes of a few behind the mark: what is read is written as it was.
func TestReadOfAllShortRows(t *testing.T) {
	some := []byte{0, 1, 2, 7, 8, 15, 16, 128}
	met := map[api.Errno]int{}
	rows := [][]byte{[]byte("alw1")}
	for range 7 {
		longer := [][]byte{}
		for _, b := range rows {
			s := checkRead(t, b)
			met[s.Err]++
			if len(b) < 10 && (s.Err == api.ErrShort || s.Err == api.OK) {
				for _, x := range some {
					longer = append(longer, append(slices.Clone(b), x))
				}
			}
		}
		rows = longer
	}
	for _, e := range []api.Errno{api.OK, api.ErrArg, api.ErrShort, api.ErrForm, api.ErrLong, api.ErrLeft} {
		if met[e] < 100 {
			t.Errorf("Read answered %d only %d times", e, met[e])
		}
	}
}

// 13.1, 13.4: many witnesses: what is written is read as it was.
func TestManyWitnesses(t *testing.T) {
	d := dice(131)
	met := map[api.Errno]int{}
	for i := range 5000 {
		size := d.below(9)
		if i%20 == 0 {
			size = d.below(4200)
		}
		met[checkWrite(t, anyWitness(&d, size))]++
	}
	if met[api.OK] < 1000 || met[api.ErrArg] < 1000 || met[api.ErrLong] < 2 {
		t.Errorf("Check answered so often: %v", met)
	}
}

// 13.2, 13.4: many rows of bytes, some with several faults: what is read is written as it was.
func TestManyRows(t *testing.T) {
	d := dice(132)
	met := map[api.Errno]int{}
	for range 60000 {
		size := d.below(5)
		b := []byte{'a', 'l', 'w', '1', byte(size)}
		for range size {
			b = append(b, byte(d.below(16)+d.below(10)/9))
		}
		b = append(b, byte(d.below(9)), byte(d.below(9)), byte(d.below(17)))
		for range d.below(4) / 2 {
			if at := 4 + d.below(len(b)); at < len(b) {
				b[at] = byte(d.below(256) >> d.below(8))
			} else {
				b = append(b, byte(at))
			}
		}
		met[checkRead(t, b).Err]++
	}
	for _, e := range []api.Errno{api.OK, api.ErrArg, api.ErrShort, api.ErrForm, api.ErrLong, api.ErrLeft} {
		if met[e] < 500 {
			t.Errorf("Read answered %d only %d times", e, met[e])
		}
	}
}

// 13.3: of whom, and behind how many picks.
func TestHoldsByHand(t *testing.T) {
	p := two(t)
	for _, c := range []struct {
		l       []api.Pick
		a, b, g int
		want    bool
	}{
		{picks(0, 0), 0, 1, 1, true},
		{picks(0, 0), 1, 0, 1, true}, // whichever is told first
		{picks(0, 0), 0, 1, 0, false},
		{picks(0, 0), 0, 1, 15, false}, // which the program doesn't have
		{picks(0, 0), 0, 2, 1, false},  // a thread that there isn't
		{picks(0, 0), 7, 6, 1, false},
		{nil, 0, 1, 1, false},
		{picks(0), 0, 1, 1, false},       // not yet
		{picks(0, 0, 0), 0, 1, 1, false}, // no more: on the way it did
		{picks(0, 0, 1), 0, 1, 1, false},
		{picks(0, 8), 0, 1, 1, false},             // the other way
		{picks(8, 0), 0, 1, 1, true},              // Way counts at a branch alone
		{picks(1, 0, 5, 7, 13, 0), 0, 1, 1, true}, // who does no step counts for nothing
		{picks(0, 1, 1, 1, 1, 0), 0, 1, 1, false}, // one has ended
		{make([]api.Pick, 4096), 0, 1, 1, false},  // at last the first one has ended
		{slices.Repeat(picks(5), 9), 0, 1, 1, false},
	} {
		w := api.Witness{Picks: c.l, A: c.a, B: c.b, Global: c.g}
		if holds, e := Holds(p, w); holds != c.want || e != api.OK {
			t.Errorf("Holds(%v) = %v, %d", w, holds, e)
		}
		checkScript(t, p, c.l)
	}
}

// 13.3: of a witness that may not be, then of a program that may not be.
func TestHoldsOfWhatMayNotBe(t *testing.T) {
	wrong := map[api.Errno][]api.Witness{
		api.ErrArg:  {{}, {A: 8, B: 1}, {A: 1, Global: 16}, {A: 1, Picks: []api.Pick{{Who: 8}}}},
		api.ErrLong: {{A: 1, Picks: make([]api.Pick, 4097)}, {Picks: make([]api.Pick, 4097)}},
	}
	for want, all := range wrong {
		for _, w := range all {
			if holds, e := Holds(two(t), w); holds || e != want {
				t.Errorf("Holds of %v = %v, %d, not %d", w, holds, e, want)
			}
		}
	}
	for pe, programs := range refused() {
		for _, p := range programs {
			for _, w := range []api.Witness{{B: 1}, {A: 7, B: 0, Global: 15, Picks: picks(0, 0, 9)}} {
				if holds, e := Holds(p, w); holds || e != pe {
					t.Errorf("Holds(%v, %v) = %v, %d, not %d", p, w, holds, e, pe)
				}
			}
			for want, all := range wrong {
				for _, w := range all {
					if holds, e := Holds(p, w); holds || e != want {
						t.Errorf("Holds(%v, %v) = %v, %d, not %d", p, w, holds, e, want)
					}
				}
			}
			for _, l := range [][]api.Pick{nil, picks(0, 0), make([]api.Pick, 5000)} {
				if w, ok := Of(p, l); ok || !isNone(w) {
					t.Errorf("Of(%v, %v) = %v, %v", p, l, w, ok)
				}
			}
		}
	}
}

// 13.3: the first two that race at the end, not those on the way.
func TestOfByHand(t *testing.T) {
	three := parsed(t, "alibi 9 0 2\nfunc\nspawn 1 0 1\nspawn 1 1 2\nread 8 3\nread 7 3\nfunc\nread 7 1\nwrite 8 2\nwrite 7 2\n")
	begun := []int{0, 0, 0, 0, 0, 0, 0}
	for _, c := range []struct {
		p    api.Program
		l    []api.Pick
		want []int // two threads, and a global
	}{
		{two(t), picks(0, 0), []int{0, 1, 1}},
		{two(t), picks(8, 0), []int{0, 1, 1}},
		{two(t), picks(0), nil},
		{two(t), nil, nil},
		{two(t), picks(0, 0, 0), nil},
		{two(t), picks(0, 0, 1), nil},
		{three, picks(0, 0), nil},
		{three, picks(0, 0, 1, 2), []int{0, 1, 8}}, // not 0 and 2, nor 1 and 2
		{three, picks(0, 0, 2), []int{0, 2, 8}},
		{three, picks(0, 0, 2, 1), []int{0, 1, 8}},
		{three, picks(0, 0, 2, 2), []int{1, 2, 7}},
		{three, picks(0, 0, 1, 1, 2, 2), []int{1, 2, 7}},
		{three, picks(0, 0, 0, 1, 1, 2, 2), []int{0, 1, 7}},
		{three, picks(0, 0, 0, 1, 2, 2), []int{0, 2, 7}},
		{three, picks(0, 0, 0, 1, 2), []int{1, 2, 8}},
		{many(t, "write"), picks(begun...), []int{0, 1, 15}},
		{many(t, "write"), picks(0, 0), []int{1, 2, 15}},
		{many(t, "read"), picks(begun...), nil},
	} {
		w, ok := Of(c.p, c.l)
		if c.want == nil {
			if ok || !isNone(w) {
				t.Errorf("Of(%v) = %v, %v", c.l, w, ok)
			}
		} else if !ok || !alike(w, api.Witness{Picks: c.l, A: c.want[0], B: c.want[1], Global: c.want[2]}) {
			t.Errorf("Of(%v) = %v, %v, not %v", c.l, w, ok, c.want)
		}
		checkScript(t, c.p, c.l)
	}
}

// 13.3: what is no script has no witness, though behind it two race.
func TestOfWhatIsNoScript(t *testing.T) {
	p := two(t)
	race := picks(0, 0)
	for _, size := range []int{2, 3, 4095, 4096} {
		l := append(make([]api.Pick, 0, size), race...)
		for len(l) < size {
			l = append(l, api.Pick{Who: 5, Way: true})
		}
		if w, ok := Of(p, l); !ok || !alike(w, api.Witness{Picks: l, B: 1, Global: 1}) {
			t.Errorf("of %d picks: %v, %v", size, w, ok)
		}
	}
	for _, size := range []int{4097, 4098, 20000} {
		l := append(slices.Repeat(picks(5), size-2), race...)
		if w, ok := Of(p, l); ok || !isNone(w) {
			t.Errorf("of %d picks: %v, %v", size, w, ok)
		}
	}
	for _, who := range append(nowhere(), 8, 9, 15) {
		for at := range 3 {
			l := slices.Insert(slices.Clone(race), at, api.Pick{Who: who})
			if n, met := script.Meets(p, l); !met || n < 2 {
				t.Fatalf("%v comes to no race", l)
			}
			if w, ok := Of(p, l); ok || !isNone(w) {
				t.Errorf("Of(%v) = %v, %v", l, w, ok)
			}
		}
	}
}

// 13.3, 13.4: many programs, along many scripts.
func TestManyPrograms(t *testing.T) {
	d := dice(133)
	races, none := 0, 0
	for range 2000 {
		if checkScript(t, anyProgram(&d), anyPicks(&d, d.below(25))) {
			races++
		} else {
			none++
		}
	}
	if races < 200 || none < 200 {
		t.Errorf("only %d scripts come to a race, %d to none", races, none)
	}
}

// 13.3, 13.4: what a search finds is the script of a witness that holds; where there is no race, none does.
func TestWhatASearchFinds(t *testing.T) {
	d := dice(134)
	found, none := 0, 0
	for range 600 {
		p := anyProgram(&d)
		l, is, _ := seek.Find(p, 300)
		switch is {
		case seek.Found:
			w, ok := Of(p, l)
			holds, e := Holds(p, w)
			if !ok || !holds || e != api.OK || !slices.Equal(w.Picks, l) {
				t.Fatalf("Of(%v, %v) = %v, %v, which holds %v, %d", p, l, w, ok, holds, e)
			}
			checkWrite(t, w)
			found++
		case seek.None:
			for range 5 {
				if w, ok := Of(p, anyPicks(&d, d.below(60))); ok {
					t.Fatalf("Of %v: %v", p, w)
				}
			}
			none++
		}
	}
	if found < 100 || none < 50 {
		t.Errorf("only %d with a race, %d without one", found, none)
	}
}

// 13.4: what was written holds just if what is read of it does.
func TestWrittenHolds(t *testing.T) {
	p := two(t)
	for _, l := range [][]api.Pick{nil, picks(0), picks(0, 0), picks(0, 8), picks(0, 0, 1)} {
		for a := range 8 {
			for b := range 8 {
				w := api.Witness{Picks: l, A: a, B: b, Global: 1}
				code, e := Write(w)
				if e != api.OK {
					continue
				}
				v, s := Read(code)
				before, _ := Holds(p, w)
				behind, e := Holds(p, v)
				if s != (api.Spot{}) || before != behind || e != api.OK || before != (len(l) == 2 && !l[1].Way && a+b == 1) {
					t.Errorf("%v holds %v, read %v, %d", w, before, behind, e)
				}
			}
		}
	}
}

// 13.1 to 13.3: each call ends at whatever is handed in.
func TestWhateverIsHandedIn(t *testing.T) {
	ret := []api.Node{{Kind: api.Return}}
	programs := []api.Program{{}, {Funcs: [][]api.Node{ret}}, {Globals: math.MinInt, Funcs: [][]api.Node{ret}}, {Funcs: [][]api.Node{{{Kind: math.MaxInt, Arg: -1, Next: math.MinInt}}}}}
	for _, n := range nowhere() {
		w := api.Witness{Picks: []api.Pick{{Who: n}}, A: n, B: -n, Global: n}
		for _, p := range programs {
			if holds, e := Holds(p, w); holds || e != api.ErrArg {
				t.Errorf("Holds(%v, %v) = %v, %d", p, w, holds, e)
			}
			if v, ok := Of(p, w.Picks); ok || !isNone(v) {
				t.Errorf("Of(%v, %v) = %v, %v", p, w.Picks, v, ok)
			}
		}
	}
	for _, size := range []int{0, 4, 5, 70000, 1 << 20} {
		for _, one := range []byte{0, 1, 'a', 128, 255} {
			checkRead(t, bytes.Repeat([]byte{one}, size))
			checkRead(t, append([]byte("alw1"), bytes.Repeat([]byte{one}, size)...))
		}
	}
}
