package seek

import (
	"math"
	"slices"
	"testing"

	"alibi/api"
	"alibi/script"
)

// 12.1: what a search comes to has numbers.
func TestNumbers(t *testing.T) {
	if Unknown != 0 || Found != 1 || None != 2 {
		t.Errorf("Unknown %d, Found %d, None %d", Unknown, Found, None)
	}
}

// 12.1: the chapter's example is the first one; the picks of others are told by hand. Among one config less than are
// needed it isn't known.
func TestFoundByHand(t *testing.T) {
	for _, c := range []struct {
		s    string
		path []api.Pick
		most int // among so many it is found
	}{
		{"alibi 1 0 1\nfunc\nspawn 1 0 1\nwrite 0 1\nfunc\nwrite 0 0\n", picks(0), 2},
		{"alibi 16 0 8\nfunc\nspawn 1 7 1\nread 15 1\nfunc\nwrite 15 0\n", picks(0), 2},
		// two ways are as good: the one without Way is come to first
		{"alibi 1 0 1\nfunc\nspawn 1 0 1\nbranch 2 3\nwrite 0 2\nwrite 0 3\nfunc\nwrite 0 0\n", picks(0, 0), 3},
		// the other way alone
		{"alibi 1 0 1\nfunc\nspawn 1 0 1\nbranch 1 2\nwrite 0 2\nfunc\nwrite 0 0\n", picks(0, 8), 3},
		{"alibi 1 0 1\nfunc\nspawn 1 0 1\nwrite 0 1\nfunc\nbranch 0 1\nwrite 0 1\n", picks(0, 9), 3},
		// behind both threads' steps: that of the lesser one is done first
		{"alibi 1 0 1\nfunc\nspawn 1 0 1\nskip 2\nwrite 0 2\nfunc\nskip 1\nwrite 0 1\n", picks(0, 0, 1), 5},
		// the lesser thread's way is longer, though it comes first
		{"alibi 1 0 2\nfunc\nspawn 1 0 1\nspawn 2 1 2\nskip 3\nskip 4\nwrite 0 4\nfunc\nwrite 0 0\nfunc\nskip 1\nwrite 0 1\n", picks(0, 0, 2), 5},
		// a second round finds what the first one doesn't: the slot has another one in it
		{"alibi 1 0 1\nfunc\nskip 1\nspawn 1 0 0\nfunc\nbranch 1 1\nwrite 0 1\n", picks(0, 0, 0, 0, 1, 2), 14},
		// a lock is no help to who doesn't take it
		{"alibi 1 1 1\nfunc\nspawn 1 0 1\nlock 0 2\nwrite 0 3\nunlock 0 1\nfunc\nread 0 0\n", picks(0, 0), 3},
		// nor another one
		{"alibi 1 2 1\nfunc\nspawn 1 0 1\nlock 0 2\nwrite 0 3\nunlock 0 4\nreturn\nfunc\nlock 1 1\nwrite 0 2\nunlock 1 3\nreturn\n", picks(0, 0, 1), 6},
	} {
		p := parsed(t, c.s)
		for _, most := range []int{c.most, c.most + 1, 999, math.MaxInt} {
			if l, is, e := Find(p, most); !slices.Equal(l, c.path) || is != Found || e != api.OK {
				t.Errorf("%q among %d: %v, %d, %d", c.s, most, l, is, e)
			}
		}
		if l, is, e := Find(p, c.most-1); len(l) != 0 || is != Unknown || e != api.OK {
			t.Errorf("%q among %d: %v, %d, %d", c.s, c.most-1, l, is, e)
		}
	}
}

// 12.1: what comes to no race is told, if all configs may be in the list: among one less it isn't known.
func TestNoneByHand(t *testing.T) {
	for _, c := range []struct {
		s   string
		all int // how many configs there are
	}{
		{"alibi 0 0 0\nfunc\nreturn\n", 2},
		{"alibi 1 0 0\nfunc\nwrite 0 0\n", 1}, // it never ends
		{"alibi 0 1 0\nfunc\nlock 0 0\n", 2},  // it comes to a standstill
		{"alibi 0 0 0\nfunc\nbranch 0 0\n", 1},
		{"alibi 0 0 0\nfunc\nbranch 1 1\nreturn\n", 3}, // both ways come to one config
		{"alibi 0 0 0\nfunc\nbranch 1 2\nreturn\nreturn\n", 4},
		{"alibi 0 0 1\nfunc\njoin 0 0\n", 1},                            // nobody is there
		{"alibi 0 0 1\nfunc\nspawn 1 0 1\njoin 0 1\nfunc\nskip 0\n", 2}, // it waits for ever
		{"alibi 1 0 1\nfunc\nspawn 1 0 1\nread 0 1\nfunc\nread 0 0\n", 2},
		{"alibi 2 0 1\nfunc\nspawn 1 0 1\nwrite 0 1\nfunc\nwrite 1 0\n", 2},
		{"alibi 1 0 1\nfunc\nspawn 1 0 1\njoin 0 2\nwrite 0 3\nreturn\nfunc\nwrite 0 1\nreturn\n", 7},
		{"alibi 1 1 1\nfunc\nspawn 1 0 1\nlock 0 2\nwrite 0 3\nunlock 0 4\nreturn\nfunc\nlock 0 1\nwrite 0 2\nunlock 0 3\nreturn\n", 22},
		{"alibi 1 0 2\nfunc\nwrite 0 1\nspawn 1 0 2\nreturn\nfunc\nreturn\n", 6},
		// four places of each thread, behind a lock or not, but for both behind it, and what it begins with
		{"alibi 0 1 1\nfunc\nspawn 1 0 1\nbranch 2 3\nlock 0 3\nskip 3\nfunc\nbranch 1 2\nlock 0 2\nskip 2\n", 16},
	} {
		p := parsed(t, c.s)
		for _, most := range []int{c.all, c.all + 1, 999, math.MaxInt} {
			if l, is, e := Find(p, most); len(l) != 0 || is != None || e != api.OK {
				t.Errorf("%q among %d: %v, %d, %d", c.s, most, l, is, e)
			}
		}
		if l, is, e := Find(p, c.all-1); len(l) != 0 || is != Unknown || e != api.OK {
			t.Errorf("%q among %d: %v, %d, %d", c.s, c.all-1, l, is, e)
		}
	}
}

// 12.1: if it is to be among none, that at first is left out, of whatever program.
func TestAmongNone(t *testing.T) {
	for _, s := range []string{"alibi 1 0 0\nfunc\nwrite 0 0\n", "alibi 1 0 1\nfunc\nspawn 1 0 1\nwrite 0 1\nfunc\nwrite 0 0\n"} {
		p := parsed(t, s)
		for _, most := range []int{0, -1, -2, -999, math.MinInt32, -1 << 32, math.MinInt + 1, math.MinInt} {
			if l, is, e := Find(p, most); len(l) != 0 || is != Unknown || e != api.OK {
				t.Errorf("%q among %d: %v, %d, %d", s, most, l, is, e)
			}
		}
	}
}

// 12.1: of a program that may not be there is nothing but chapter 5's error, among however many.
func TestProgramsThatMayNotBe(t *testing.T) {
	ret := []api.Node{{Kind: api.Return}}
	racy := []api.Node{{Kind: api.Spawn}, {Kind: api.Write}}
	for want, all := range map[api.Errno][]api.Program{
		api.ErrArg:   {{}, {Locks: -1, Funcs: [][]api.Node{ret}}, {Funcs: [][]api.Node{ret, nil}}},
		api.ErrLong:  {{Globals: 17, Funcs: [][]api.Node{ret}}, {Funcs: make([][]api.Node, 17)}, {Funcs: [][]api.Node{make([]api.Node, 65)}}},
		api.ErrForm:  {{Funcs: [][]api.Node{{{Kind: 10}}}}, {Funcs: [][]api.Node{ret, {{Next: 1}}}}, {Globals: 1, Funcs: [][]api.Node{racy}}},
		api.ErrRound: {{Funcs: [][]api.Node{{{Kind: api.Call}}}}, {Funcs: [][]api.Node{ret, {{Kind: api.Call, Arg: 1}}}}},
	} {
		for _, p := range all {
			for _, most := range []int{math.MinInt, -1, 0, 1, 2, 999, math.MaxInt} {
				if l, is, e := Find(p, most); len(l) != 0 || is != Unknown || e != want {
					t.Errorf("Find(%v, %d) = %v, %d, %d, not %d", p, most, l, is, e, want)
				}
			}
		}
	}
}

// 12.1: configs are unlike, if they are so in anything at all: the race lies behind one that differs in one thing alone
// from another one, which is come to earlier.
func TestWhatTellsConfigsApart(t *testing.T) {
	for name, s := range map[string]string{
		"which lock":        "alibi 1 2 1\nfunc\nspawn 1 0 1\nbranch 2 3\nlock 0 4\nlock 1 4\nlock 0 5\nwrite 0 5\nfunc\nwrite 0 0\n",
		"the last lock":     "alibi 1 16 1\nfunc\nspawn 1 0 1\nbranch 2 3\nlock 14 4\nlock 15 4\nlock 14 5\nwrite 0 5\nfunc\nwrite 0 0\n",
		"who is in a slot":  "alibi 1 0 2\nfunc\nbranch 1 3\nspawn 1 0 2\nspawn 2 1 5\nspawn 1 1 4\nspawn 2 0 5\njoin 0 6\nwrite 0 6\nfunc\nwrite 0 0\nfunc\nreturn\n",
		"which slot":        "alibi 1 0 2\nfunc\nbranch 1 2\nspawn 1 0 3\nspawn 1 1 3\njoin 0 4\nwrite 0 4\nfunc\nwrite 0 0\n",
		"the last slot":     "alibi 1 0 8\nfunc\nbranch 1 2\nspawn 1 6 3\nspawn 1 7 3\njoin 6 4\nwrite 0 4\nfunc\nwrite 0 0\n",
		"where a call goes": "alibi 1 0 1\nfunc\nspawn 2 0 1\nbranch 2 3\ncall 1 4\ncall 1 5\nskip 4\nwrite 0 5\nfunc\nreturn\nfunc\nwrite 0 0\n",
		"which function":    "alibi 1 0 1\nfunc\nspawn 3 0 1\nbranch 2 3\ncall 1 4\ncall 2 4\nskip 4\nfunc\nskip 0\nfunc\nwrite 0 0\nfunc\nwrite 0 0\n",
		"which node":        "alibi 1 0 1\nfunc\nspawn 1 0 1\nbranch 2 3\nskip 2\nwrite 0 3\nfunc\nwrite 0 0\n",
		"how many threads":  "alibi 1 0 1\nfunc\nbranch 3 1\nspawn 1 0 2\nwrite 0 2\nskip 2\nfunc\nwrite 0 0\n",
		"who lives":         "alibi 1 0 2\nfunc\nspawn 1 0 1\nspawn 2 1 2\njoin 0 3\nwrite 0 3\nfunc\nbranch 0 1\nreturn\nfunc\nwrite 0 0\n",
	} {
		p := parsed(t, s)
		w := everything(t, p, 2000)
		if is := checkFind(t, p, w, len(w.all)); is != Found {
			t.Errorf("%s: %d", name, is)
		}
	}
}

// 12.1: threads of which there may be no more, and who waits, do no step.
func TestStandstills(t *testing.T) {
	for _, s := range []string{
		"alibi 0 0 1\nfunc\nspawn 0 0 0\n",                              // till there are 8
		"alibi 1 0 1\nfunc\nspawn 0 0 1\njoin 0 2\nwrite 0 3\nreturn\n", // the last one can begin none
		"alibi 1 2 1\nfunc\nspawn 1 0 1\nlock 0 2\nlock 1 3\nwrite 0 3\nfunc\nlock 1 1\nlock 0 2\nwrite 0 2\n",
	} {
		p := parsed(t, s)
		w := everything(t, p, 2000)
		for _, most := range []int{1, 2, len(w.all) - 1, len(w.all), len(w.all) + 1} {
			checkFind(t, p, w, most)
		}
	}
}

// 12.1: a path may have more picks than a script.
func TestALongPath(t *testing.T) {
	l := make([]api.Node, 64)
	calls := make([]api.Node, 64)
	for i := range 63 {
		l[i] = api.Node{Next: i + 1}
		calls[i] = api.Node{Kind: api.Call, Arg: 2, Next: i + 1}
	}
	l[63].Kind, calls[63].Kind = api.Return, api.Return
	p := parsed(t, "alibi 1 0 1\nfunc\ncall 1 1\nskip 2\nspawn 3 0 3\nwrite 0 3\nfunc\nskip 0\nfunc\nskip 0\nfunc\nwrite 0 0\n")
	p.Funcs[1], p.Funcs[2] = calls, l
	const size = 1 + 63*(1+64) + 1 + 2
	if size <= api.MaxPicks {
		t.Fatal("it isn't long")
	}
	for _, most := range []int{size + 1, size + 2, math.MaxInt} {
		if path, is, e := Find(p, most); !slices.Equal(path, make([]api.Pick, size)) || is != Found || e != api.OK {
			t.Errorf("among %d: %d picks, %d, %d", most, len(path), is, e)
		}
	}
	for _, most := range []int{size, size - 1, 4096} {
		if path, is, e := Find(p, most); len(path) != 0 || is != Unknown || e != api.OK {
			t.Errorf("among %d: %d picks, %d, %d", most, len(path), is, e)
		}
	}
}

// 12.1: many programs, among any number of configs.
func TestManyPrograms(t *testing.T) {
	d := dice(121)
	var far, none, much int // races behind several picks; no race among several configs; more configs than were told
	for range 1000 {
		const enough = 50
		p := anyProgram(&d)
		w := everything(t, p, enough)
		is := Unknown
		for most := -1; most <= min(len(w.all)+1, enough); most++ {
			is = checkFind(t, p, w, most)
		}
		switch l, _, _ := Find(p, enough); {
		case is == Found && len(l) > 3:
			far++
		case is == None && len(w.all) > 9:
			none++
		case is == Unknown:
			much++
		}
	}
	if far < 50 || none < 50 || much < 50 {
		t.Errorf("only %d with a far race, %d with none, %d with much", far, none, much)
	}
}

// 12.2: what is found is a script that comes to a race behind its last pick, and no shorter one does.
func TestShortest(t *testing.T) {
	d := dice(122)
	far := 0
	for range 800 {
		p := anyProgram(&d)
		l, is, _ := Find(p, 500)
		if is != Found {
			continue
		}
		if n, ok := script.Meets(p, l); !ok || n != len(l) {
			t.Fatalf("%v: %v, a race behind %d, %v", p, l, n, ok)
		}
		if len(l) > 3 {
			far++
		}
		noRaceBehind(t, p, min(len(l)-1, 3))
		for range 50 {
			noRaceAlong(t, p, anyPicks(&d, len(l)-1))
		}
	}
	if far < 50 {
		t.Errorf("only %d were found behind several picks", far)
	}
}

// 12.2: where there is none, no script comes to a race, however long.
func TestNoScriptComesToARace(t *testing.T) {
	d := dice(123)
	none := 0
	for range 800 {
		p := anyProgram(&d)
		if _, is, _ := Find(p, 500); is != None {
			continue
		}
		none++
		for range 5 {
			noRaceAlong(t, p, anyPicks(&d, 400))
		}
	}
	if none < 80 {
		t.Errorf("only %d without a race", none)
	}
}

// noRaceBehind runs all scripts of a few picks, of all threads that there may be then.
func noRaceBehind(t *testing.T, p api.Program, size int) {
	t.Helper()
	ways := 2 * (size + 1)
	count := 1
	for range size {
		count *= ways
	}
	l := make([]api.Pick, size)
	for n := range count {
		for i := range l {
			l[i] = api.Pick{Who: n % ways / 2, Way: n%2 == 1}
			n /= ways
		}
		noRaceAlong(t, p, l)
	}
}

// noRaceAlong runs a script, that comes to no race.
func noRaceAlong(t *testing.T, p api.Program, l []api.Pick) {
	t.Helper()
	if n, ok := script.Meets(p, l); ok {
		t.Fatalf("%v: %v comes to a race behind %d", p, l, n)
	}
}
