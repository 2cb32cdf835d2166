package script

import (
	"bytes"
	"slices"
	"testing"

	"alibi/api"
	"alibi/sem"
)

// 11.1: the chapter's example is the byte 9.
func TestBytesByHand(t *testing.T) {
	for _, c := range []struct {
		l []api.Pick
		b string
	}{
		{nil, ""},
		{[]api.Pick{{Who: 1, Way: true}}, "\x09"},
		{[]api.Pick{{}}, "\x00"},
		{[]api.Pick{{Way: true}}, "\x08"},
		{[]api.Pick{{Who: 7}}, "\x07"},
		{[]api.Pick{{Who: 7, Way: true}}, "\x0f"},
		{[]api.Pick{{Who: 3}, {Who: 0, Way: true}, {Who: 3}, {Who: 5, Way: true}}, "\x03\x08\x03\x0d"},
	} {
		if b, e := Put(c.l); string(b) != c.b || e != api.OK {
			t.Errorf("Put(%v) = %x, %d", c.l, b, e)
		}
		if l, s := Get([]byte(c.b)); !slices.Equal(l, c.l) || s != (api.Spot{}) {
			t.Errorf("Get(%x) = %v, %v", c.b, l, s)
		}
	}
}

// 11.1, 11.3: each byte alone, and all rows of two.
func TestEveryTwoBytes(t *testing.T) {
	picked := func(b byte) api.Pick { return api.Pick{Who: int(b & 7), Way: b&8 != 0} }
	for a := range 256 {
		checkGet(t, []byte{byte(a)}, []api.Pick{picked(byte(a))})
		for b := range 256 {
			checkGet(t, []byte{byte(a), byte(b)}, []api.Pick{picked(byte(a)), picked(byte(b))})
		}
	}
}

// checkGet holds what is read of bytes against the picks that they are, if none is above 15, and that against what is written.
func checkGet(t *testing.T, b []byte, want []api.Pick) {
	t.Helper()
	l, s := Get(b)
	if at := slices.IndexFunc(b, func(one byte) bool { return one > 15 }); at >= 0 {
		if len(l) != 0 || s != (api.Spot{At: at, Err: api.ErrForm}) {
			t.Fatalf("Get(%x) = %v, %v", b, l, s)
		}
		return
	}
	if !slices.Equal(l, want) || s != (api.Spot{}) {
		t.Fatalf("Get(%x) = %v, %v", b, l, s)
	}
	if c, e := Put(l); !bytes.Equal(c, b) || e != api.OK {
		t.Fatalf("Put(%v) = %x, %d, not %x", l, c, e, b)
	}
}

// 11.1: of no thread that there may be, wherever it stands.
func TestPutOfStrangers(t *testing.T) {
	for _, who := range strangers() {
		for _, size := range []int{1, 2, 9, 4096} {
			for _, at := range []int{0, size / 2, size - 1} {
				l := make([]api.Pick, size)
				for _, way := range []bool{false, true} {
					l[at] = api.Pick{Who: who, Way: way}
					if b, e := Put(l); len(b) != 0 || e != api.ErrArg {
						t.Errorf("Put of %d at %d of %d = %x, %d", who, at, size, b, e)
					}
				}
			}
		}
	}
}

// 11.1: 4096 are a script, one more is too long, whatever stands there.
func TestHowManyThereMayBe(t *testing.T) {
	for _, size := range []int{0, 1, 4095, 4096} {
		l, b := make([]api.Pick, size), make([]byte, size)
		for i := range l {
			l[i], b[i] = api.Pick{Who: i % 8, Way: i%16 > 7}, byte(i%16)
		}
		if got, e := Put(l); !bytes.Equal(got, b) || e != api.OK {
			t.Errorf("Put of %d: %d bytes, %d", size, len(got), e)
		}
		if got, s := Get(b); !slices.Equal(got, l) || s != (api.Spot{}) {
			t.Errorf("Get of %d: %d picks, %v", size, len(got), s)
		}
	}
	for _, size := range []int{4097, 4098, 8192, 65536, 1 << 20} {
		for _, bad := range []bool{false, true} {
			l, b := make([]api.Pick, size), make([]byte, size)
			if bad {
				l[0].Who, b[0] = 8, 16
			}
			if got, e := Put(l); len(got) != 0 || e != api.ErrLong {
				t.Errorf("Put of %d: %d bytes, %d", size, len(got), e)
			}
			if got, s := Get(b); len(got) != 0 || s != (api.Spot{Err: api.ErrLong}) {
				t.Errorf("Get of %d: %d picks, %v", size, len(got), s)
			}
		}
	}
}

// 11.1: the first byte above 15 is told, wherever others stand.
func TestTheFirstByteThatIsNone(t *testing.T) {
	for _, size := range []int{1, 2, 7, 4096} {
		for _, at := range []int{0, size / 3, size - 1} {
			for _, one := range []byte{16, 17, 31, 128, 255} {
				b := bytes.Repeat([]byte{15}, size)
				b[size-1], b[at] = 99, one
				if l, s := Get(b); len(l) != 0 || s != (api.Spot{At: at, Err: api.ErrForm}) {
					t.Errorf("Get of %d at %d of %d = %v, %v", one, at, size, l, s)
				}
			}
		}
	}
}

// 11.3: what is written is read as it was.
func TestWrittenAndRead(t *testing.T) {
	d := dice(111)
	for range 500 {
		l := make([]api.Pick, d.below(4097))
		for i := range l {
			l[i] = api.Pick{Who: d.below(8), Way: d.below(2) == 0}
		}
		b, e := Put(l)
		if got, s := Get(b); len(b) != len(l) || e != api.OK || !slices.Equal(got, l) || s != (api.Spot{}) {
			t.Fatalf("%v was written as %x, %d, and read as %v, %v", l, b, e, got, s)
		}
	}
}

// 11.2: of a program that may not be there is nothing; chapter 5's error is told.
func TestProgramsThatMayNotBe(t *testing.T) {
	for want, all := range refused() {
		for _, p := range all {
			for _, l := range [][]api.Pick{nil, picks(0), picks(0, 8, -1), make([]api.Pick, 5000)} {
				if c, e := Run(p, l); e != want || !sem.Same(c, sem.Config{}) {
					t.Errorf("Run(%v) = %v, %d, not %d", p, c, e, want)
				}
				if n, ok := Meets(p, l); n != 0 || ok {
					t.Errorf("Meets(%v) = %d, %v", p, n, ok)
				}
				along := Along(p, l)
				if along == nil {
					t.Fatalf("Along(%v) is nil", p)
				}
				for n, c := range along {
					t.Errorf("Along(%v): %d, %v", p, n, c)
				}
			}
		}
	}
}

// 11.2: each pick counts, if its thread may do no step, too; Way counts at a branch alone.
func TestAlongByHand(t *testing.T) {
	p := two(t)
	l := []api.Pick{{Who: 1}, {Way: true}, {Who: -1}, {}, {Way: true}, {Who: 1, Way: true}, {}, {Who: 1}, {Who: 1}, {}}
	places := [][]sem.Frame{ // of the threads 0 and 1
		{{Node: 0}}, {{Node: 0}}, {{Node: 1}, {Func: 1}}, {{Node: 1}, {Func: 1}}, {{Node: 2}, {Func: 1}}, {{Node: 4}, {Func: 1}},
		{{Node: 4}, {Func: 1, Node: 1}}, {{Node: -1}, {Func: 1, Node: 1}}, {{Node: -1}, {Node: -1}}, {{Node: -1}, {Node: -1}}, {{Node: -1}, {Node: -1}},
	}
	told := 0
	for n, c := range Along(p, l) {
		if n != told || n >= len(places) || len(c.Threads) != len(places[n]) {
			t.Fatalf("behind %d: %d, %v", told, n, c)
		}
		for who, at := range places[n] {
			want := []sem.Frame{at}
			if at.Node < 0 { // it has ended
				want = nil
			}
			if !slices.Equal(c.Threads[who].Stack, want) {
				t.Errorf("behind %d: %v", n, c)
			}
		}
		told++
	}
	if told != len(l)+1 {
		t.Errorf("%d configs", told)
	}
}

// 11.2: no picks come to what a program begins with.
func TestNoPicks(t *testing.T) {
	p := two(t)
	first, _ := sem.Start(p)
	for _, l := range [][]api.Pick{nil, {}} {
		told := 0
		for n, c := range Along(p, l) {
			if n != 0 || !sem.Same(c, first) {
				t.Errorf("Along: %d, %v", n, c)
			}
			told++
		}
		if c, e := Run(p, l); told != 1 || e != api.OK || !sem.Same(c, first) {
			t.Errorf("%d configs, at last %v, %d", told, c, e)
		}
		if n, ok := Meets(p, l); n != 0 || ok {
			t.Errorf("Meets = %d, %v", n, ok)
		}
	}
}

// 11.2: the least number of picks, where two race more than once; never, where they only could.
func TestMeetsByHand(t *testing.T) {
	others := parsed(t, "alibi 16 0 2\nfunc\nspawn 1 0 1\nspawn 1 1 2\nread 0 2\nfunc\nskip 1\nwrite 15 1\n")
	alone := parsed(t, "alibi 1 0 1\nfunc\nwrite 0 0\n")
	both := parsed(t, "alibi 1 0 1\nfunc\nspawn 1 0 1\nwrite 0 1\nfunc\nwrite 0 0\n")
	for _, c := range []struct {
		p    api.Program
		l    []api.Pick
		want int // -1: never
	}{
		{two(t), picks(0, 0, 0), 3},
		{two(t), picks(0, 0, 0, 0), 3},
		{two(t), picks(0, 0, 0, 1, 0), 3},
		{two(t), picks(0, 5, 0, -1, 1<<40, 0, 1), 6}, // who may do no step counts
		{two(t), picks(0, 0), -1},
		{two(t), picks(0, 1, 0, 0, 0, 0), -1},
		{two(t), []api.Pick{{}, {}, {Way: true}, {Who: 1}, {}}, -1}, // the other way
		{two(t), []api.Pick{{Way: true}, {Who: 2, Way: true}, {Way: true}, {}}, 4},
		{alone, picks(0, 0, 1, 0), -1},
		{both, picks(1, 0), 2},
		{both, picks(0, 0, 1, 0), 1}, // ever after, too
		{both, picks(1, 1), -1},
		{others, picks(0, 0, 1, 2, 1), 4}, // not the first thread, nor the first global
		{others, picks(0, 0, 2, 0, 2), -1},
	} {
		if n := checkWay(t, c.p, c.l); n != c.want {
			t.Errorf("behind %v: %d, not %d", c.l, n, c.want)
		}
	}
}

// 11.2: of more picks than a script has, and of whatever threads.
func TestMorePicksThanAScript(t *testing.T) {
	p := parsed(t, "alibi 1 0 1\nfunc\nbranch 0 1\nspawn 1 0 2\nwrite 0 2\nfunc\nwrite 0 0\n")
	for _, size := range []int{4096, 4097, 20000, 70000} {
		l := make([]api.Pick, size)
		for i, all := 0, strangers(); i < size; i += 3 {
			l[i] = api.Pick{Who: all[i%len(all)], Way: true}
		}
		if n := checkWay(t, p, l); n != -1 {
			t.Errorf("of %d picks: behind %d", size, n)
		}
		l[size-2], l[size-1] = api.Pick{Way: true}, api.Pick{}
		if n := checkWay(t, p, l); n != size {
			t.Errorf("of %d picks: behind %d", size, n)
		}
		c, e := Run(p, l)
		if e != api.OK || len(c.Threads) != 2 || c.Threads[0].Stack[0] != (sem.Frame{Node: 2}) {
			t.Errorf("behind %d picks: %v, %d", size, c, e)
		}
	}
}

// 11.2: many programs, along many picks.
func TestManyPrograms(t *testing.T) {
	d := dice(112)
	late, never := 0, 0 // where two race behind several picks, and where none do
	for range 3000 {
		switch met := checkWay(t, anyProgram(&d), anyPicks(&d, d.below(40))); {
		case met > 3:
			late++
		case met < 0:
			never++
		}
	}
	if late < 300 || never < 300 {
		t.Errorf("only %d come to a race late, %d never", late, never)
	}
}

// 11.3: what a script comes to is on the way of each longer one; so is where two race.
func TestLongerScripts(t *testing.T) {
	d := dice(113)
	for range 200 {
		p, l := anyProgram(&d), anyPicks(&d, 30)
		met, ok := Meets(p, l)
		for n, c := range Along(p, l) {
			if end, e := Run(p, l[:n]); e != api.OK || !sem.Same(c, end) {
				t.Fatalf("behind %v: %v, on the way %v", l[:n], end, c)
			}
			want := 0
			if ok && met <= n {
				want = met
			}
			if got, found := Meets(p, l[:n]); got != want || found != (ok && met <= n) {
				t.Fatalf("Meets(%v) = %d, %v; of %v %d, %v", l[:n], got, found, l, met, ok)
			}
		}
	}
}
