package text

import (
	"math"
	"reflect"
	"regexp"
	"slices"
	"strconv"
	"strings"
	"testing"

	"alibi/api"
	"alibi/prog"
)

// kinds are the names of kinds, and what is told of each, in that order.
var kinds = []struct {
	name   string
	fields []string
}{
	{"skip", []string{"Next"}},
	{"read", []string{"Arg", "Next"}},
	{"write", []string{"Arg", "Next"}},
	{"lock", []string{"Arg", "Next"}},
	{"unlock", []string{"Arg", "Next"}},
	{"spawn", []string{"Arg", "Alt", "Next"}},
	{"join", []string{"Arg", "Next"}},
	{"call", []string{"Arg", "Next"}},
	{"branch", []string{"Next", "Alt"}},
	{"return", nil},
}

// pattern answers what a line of a name and so many numbers looks like.
func pattern(name string, numbers int) *regexp.Regexp {
	return regexp.MustCompile(`\A` + name + strings.Repeat(` (0|[1-9][0-9]?[0-9]?[0-9]?)`, numbers) + `\z`)
}

// the first line, that of a function, and those of nodes
var (
	alibiLine = pattern("alibi", 3)
	funcLine  = pattern("func", 0)
	nodeLines = func() []*regexp.Regexp {
		var l []*regexp.Regexp
		for _, k := range kinds {
			l = append(l, pattern(k.name, len(k.fields)))
		}
		return l
	}()
)

// nodeByHand answers the node of a line, if it is one.
func nodeByHand(line string) (api.Node, bool) {
	for kind, pattern := range nodeLines {
		if found := pattern.FindStringSubmatch(line); found != nil {
			n := api.Node{Kind: kind}
			for i, field := range kinds[kind].fields {
				told, _ := strconv.Atoi(found[i+1])
				reflect.ValueOf(&n).Elem().FieldByName(field).SetInt(int64(told))
			}
			return n, true
		}
	}
	return api.Node{}, false
}

// parseByHand answers what Parse should.
func parseByHand(s string) (api.Program, int, api.Errno) {
	if len(s) > 65536 {
		return api.Program{}, 0, api.ErrLong
	}
	var p api.Program
	none := true
	for at, line := range strings.Split(s, "\n") {
		if len(line) == 0 {
			continue
		}
		if none {
			found := alibiLine.FindStringSubmatch(line)
			if found == nil {
				return api.Program{}, at + 1, api.ErrForm
			}
			p.Globals, _ = strconv.Atoi(found[1])
			p.Locks, _ = strconv.Atoi(found[2])
			p.Slots, _ = strconv.Atoi(found[3])
			none = false
			continue
		}
		if funcLine.MatchString(line) {
			p.Funcs = append(p.Funcs, nil)
			continue
		}
		n, ok := nodeByHand(line)
		if !ok || len(p.Funcs) == 0 {
			return api.Program{}, at + 1, api.ErrForm
		}
		p.Funcs[len(p.Funcs)-1] = append(p.Funcs[len(p.Funcs)-1], n)
	}
	if _, _, e := prog.Check(p); e != 0 {
		return api.Program{}, 0, e
	}
	return p, 0, 0
}

// printByHand answers the text of a program that may be.
func printByHand(p api.Program) string {
	s := "alibi " + strconv.Itoa(p.Globals) + " " + strconv.Itoa(p.Locks) + " " + strconv.Itoa(p.Slots) + "\n"
	for _, l := range p.Funcs {
		s += "func\n"
		for _, n := range l {
			s += kinds[n.Kind].name
			for _, field := range kinds[n.Kind].fields {
				s += " " + strconv.Itoa(int(reflect.ValueOf(n).FieldByName(field).Int()))
			}
			s += "\n"
		}
	}
	return s
}

// isNone tells whether nothing is told of a program.
func isNone(p api.Program) bool {
	return p.Globals == 0 && p.Locks == 0 && p.Slots == 0 && len(p.Funcs) == 0
}

// checkParse holds Parse against the chapter's words, and what is read against what is printed of it.
func checkParse(t *testing.T, s string) (int, api.Errno) {
	t.Helper()
	p, n, e := Parse(s)
	q, wantLine, want := parseByHand(s)
	if n != wantLine || e != want || !prog.Same(p, q) {
		t.Fatalf("Parse(%q) = %v, %d, %d, not %v, %d, %d", s, p, n, e, q, wantLine, want)
	}
	if e != 0 && !isNone(p) {
		t.Fatalf("Parse(%q) = %v beside %d", s, p, e)
	}
	if e == 0 {
		full := ""
		for _, line := range strings.Split(s, "\n") {
			if line != "" {
				full += line + "\n"
			}
		}
		if u, e := Print(p); u != full || e != 0 {
			t.Fatalf("what was read of %q was printed as %q, %d", s, u, e)
		}
	}
	return n, e
}

// checkPrint holds Print against the chapter's words, and what is printed against what is read of it.
func checkPrint(t *testing.T, p api.Program) {
	t.Helper()
	had := copied(p)
	s, e := Print(p)
	if !prog.Same(p, had) {
		t.Fatalf("%v became %v", had, p)
	}
	if _, _, want := prog.Check(p); want != 0 {
		if s != "" || e != want {
			t.Fatalf("Print(%v) = %q, %d, not %d", p, s, e, want)
		}
		return
	}
	if want := printByHand(p); s != want || e != 0 {
		t.Fatalf("Print(%v) = %q, %d, not %q", p, s, e, want)
	}
	if q, n, e := Parse(s); n != 0 || e != 0 || !prog.Same(p, q) {
		t.Fatalf("what was printed of %v was read as %v, %d, %d", p, q, n, e)
	}
}

// ret is a function of one Return.
func ret() []api.Node { return []api.Node{{Kind: api.Return}} }

// rets answers so many functions of one Return.
func rets(n int) [][]api.Node {
	var l [][]api.Node
	for range n {
		l = append(l, ret())
	}
	return l
}

// long is a function of so many nodes, each of which goes on at the last one.
func long(n int) []api.Node {
	var l []api.Node
	for i := range n {
		l = append(l, []api.Node{{Kind: api.Skip, Next: n - 1}, {Kind: api.Branch, Next: n - 1, Alt: i}}[i%2])
	}
	return l
}

// copied answers a program that shares no memory with another one, but is like it.
func copied(p api.Program) api.Program {
	q := p
	q.Funcs = nil
	for _, l := range p.Funcs {
		q.Funcs = append(q.Funcs, slices.Clone(l))
	}
	return q
}

// every is a program of each kind of node, no two of whose fields in one node are alike.
func every() api.Program {
	return api.Program{Globals: 3, Locks: 2, Slots: 4, Funcs: [][]api.Node{
		{
			{Kind: api.Skip, Next: 1},
			{Kind: api.Read, Arg: 2, Next: 3},
			{Kind: api.Write, Arg: 1, Next: 4},
			{Kind: api.Lock, Arg: 1, Next: 5},
			{Kind: api.Unlock, Arg: 0, Next: 6},
			{Kind: api.Spawn, Arg: 2, Next: 9, Alt: 3},
			{Kind: api.Join, Arg: 3, Next: 7},
			{Kind: api.Call, Arg: 1, Next: 8},
			{Kind: api.Branch, Next: 9, Alt: 2},
			{Kind: api.Return},
		},
		{{Kind: api.Call, Arg: 2, Next: 1}, {Kind: api.Return}},
		{{Kind: api.Return}},
	}}
}

// everyText is the text of every, written out.
const everyText = `alibi 3 2 4
func
skip 1
read 2 3
write 1 4
lock 1 5
unlock 0 6
spawn 2 3 9
join 3 7
call 1 8
branch 9 2
return
func
call 2 1
return
func
return
`

// greatest is the program that has the most of everything.
func greatest() api.Program {
	p := api.Program{Globals: 16, Locks: 16, Slots: 8}
	for range 16 {
		l := []api.Node{}
		for i := range 64 {
			l = append(l, api.Node{Kind: api.Spawn, Arg: 15, Next: 63 - i, Alt: 7})
		}
		p.Funcs = append(p.Funcs, l)
	}
	return p
}

// whole are programs that may be, at every edge.
func whole() []api.Program {
	chain := api.Program{}
	for f := range 15 {
		chain.Funcs = append(chain.Funcs, []api.Node{{Kind: api.Call, Arg: f + 1, Next: 1}, {Kind: api.Return}})
	}
	chain.Funcs = append(chain.Funcs, ret())
	return []api.Program{
		{Funcs: rets(1)}, {Funcs: rets(2)}, {Funcs: rets(16)}, {Funcs: [][]api.Node{{{}}}},
		{Globals: 16, Funcs: rets(1)}, {Locks: 16, Funcs: rets(1)}, {Slots: 8, Funcs: rets(1)},
		{Globals: 16, Locks: 16, Slots: 8, Funcs: rets(16)}, {Globals: 1, Locks: 2, Slots: 3, Funcs: rets(4)},
		{Funcs: [][]api.Node{long(63)}}, {Funcs: [][]api.Node{long(64)}}, {Funcs: append(rets(15), long(64))},
		{Funcs: [][]api.Node{long(2), long(1), long(3)}},
		{Globals: 16, Funcs: [][]api.Node{{{Kind: api.Read, Arg: 15}}, {{Kind: api.Write, Arg: 15}}}},
		{Locks: 16, Funcs: [][]api.Node{{{Kind: api.Lock, Arg: 15}}, {{Kind: api.Unlock, Arg: 15}}}},
		{Slots: 8, Funcs: [][]api.Node{{{Kind: api.Spawn, Alt: 7}}, {{Kind: api.Join, Arg: 7}}}},
		chain, every(), greatest(),
	}
}

// 8.1
func TestName(t *testing.T) {
	for kind, want := range map[int]string{
		api.Skip: "skip", api.Read: "read", api.Write: "write", api.Lock: "lock", api.Unlock: "unlock",
		api.Spawn: "spawn", api.Join: "join", api.Call: "call", api.Branch: "branch", api.Return: "return",
		-1: "", 10: "", 11: "", -10: "", 255: "", 256: "", -256: "", 1 << 32: "", 1<<32 + 3: "", math.MaxInt: "", math.MinInt: "", math.MinInt + 1: "",
	} {
		if s := Name(kind); s != want {
			t.Errorf("Name(%d) = %q, not %q", kind, s, want)
		}
	}
}

// 8.1: the chapter's example, and each kind of node.
func TestPrint(t *testing.T) {
	if s, e := Print(api.Program{Funcs: rets(1)}); s != "alibi 0 0 0\nfunc\nreturn\n" || e != 0 {
		t.Errorf("Print of one Return = %q, %d", s, e)
	}
	if s, e := Print(every()); s != everyText || e != 0 {
		t.Errorf("Print of every kind = %q, %d", s, e)
	}
	for _, p := range whole() {
		checkPrint(t, p)
	}
}

// 8.1, 8.3: numbers of one digit and of two, as great as each may be.
func TestPrintOfGreatNumbers(t *testing.T) {
	p := api.Program{Globals: 16, Locks: 16, Slots: 8, Funcs: append(rets(15), long(64))}
	copy(p.Funcs[15], []api.Node{
		{Kind: api.Skip, Next: 63},
		{Kind: api.Read, Arg: 15, Next: 10},
		{Kind: api.Write, Arg: 9, Next: 63},
		{Kind: api.Lock, Arg: 15, Next: 9},
		{Kind: api.Unlock, Arg: 10, Next: 63},
		{Kind: api.Spawn, Arg: 15, Next: 63, Alt: 7},
		{Kind: api.Join, Arg: 7, Next: 63},
		{Kind: api.Call, Arg: 14, Next: 63},
		{Kind: api.Branch, Next: 62, Alt: 63},
	})
	want := "alibi 16 16 8\n" + strings.Repeat("func\nreturn\n", 15) +
		"func\nskip 63\nread 15 10\nwrite 9 63\nlock 15 9\nunlock 10 63\nspawn 15 7 63\njoin 7 63\ncall 14 63\nbranch 62 63\n"
	if s, e := Print(p); !strings.HasPrefix(s, want) || e != 0 {
		t.Errorf("Print = %q, %d", s, e)
	}
	checkPrint(t, p)
}

// 8.1: which error is met, and nothing beside it.
func TestPrintOfWhatMayNotBe(t *testing.T) {
	for want, l := range map[api.Errno][]api.Program{
		api.ErrArg: {
			{}, {Globals: 17}, {Globals: -1, Funcs: rets(1)}, {Locks: -1, Funcs: rets(1)}, {Slots: math.MinInt, Funcs: rets(1)},
			{Globals: 17, Slots: -1, Funcs: rets(17)}, {Funcs: [][]api.Node{nil}}, {Funcs: [][]api.Node{ret(), {}}}, {Funcs: [][]api.Node{{}, {{Kind: 10}}}},
		},
		api.ErrLong: {
			{Globals: 17, Funcs: rets(1)}, {Locks: math.MaxInt, Funcs: rets(1)}, {Slots: 9, Funcs: rets(1)}, {Funcs: rets(17)},
			{Slots: 9, Funcs: [][]api.Node{nil}}, {Funcs: [][]api.Node{long(65)}}, {Funcs: make([][]api.Node, 70000)}, {Funcs: [][]api.Node{long(70000)}},
		},
		api.ErrForm: {
			{Funcs: [][]api.Node{{{Next: 1}}}}, {Funcs: [][]api.Node{{{Next: -1}}}}, {Funcs: [][]api.Node{{{Arg: 1}}}}, {Funcs: [][]api.Node{{{Alt: 1}}}},
			{Funcs: [][]api.Node{{{Kind: api.Branch, Arg: 1}}}}, {Funcs: [][]api.Node{{{Kind: api.Return, Next: 1}, {}}}},
			{Globals: 1, Funcs: [][]api.Node{{{Kind: api.Read, Alt: 1}, {}}}}, {Funcs: [][]api.Node{{{Kind: 10}}}}, {Funcs: [][]api.Node{{{Kind: -1}}}},
			{Funcs: [][]api.Node{{{Kind: math.MinInt}}}}, {Funcs: [][]api.Node{{{Kind: 10}}, nil}},
		},
		api.ErrRound: {
			{Funcs: [][]api.Node{{{Kind: api.Call}}}}, {Funcs: [][]api.Node{{{Kind: api.Call, Arg: 1}}, {{Kind: api.Call}}}},
		},
	} {
		for _, p := range l {
			if s, e := Print(p); s != "" || e != want {
				t.Errorf("Print(%v) = %q, %d, not %d", p, s, e, want)
			}
			checkPrint(t, p)
		}
	}
}

// 8.1: what is handed in isn't changed, spare room included.
func TestPrintChangesNothing(t *testing.T) {
	p, had := every(), every()
	spare := append(p.Funcs, nil)
	for f, l := range p.Funcs {
		p.Funcs[f] = append(l, api.Node{Kind: 77})[:len(l)]
	}
	if s, e := Print(p); s != everyText || e != 0 {
		t.Errorf("Print = %q, %d", s, e)
	}
	if !prog.Same(p, had) || spare[len(p.Funcs)] != nil {
		t.Errorf("%v became %v", had, p)
	}
	for f, l := range p.Funcs {
		if l[:len(l)+1][len(l)] != (api.Node{Kind: 77}) {
			t.Errorf("what is behind function %d was changed", f)
		}
	}
}

// 8.2: the chapter's example, each kind of node, and lines without bytes wherever they stand.
func TestParse(t *testing.T) {
	one := api.Program{Funcs: rets(1)}
	for _, c := range []struct {
		s string
		p api.Program
	}{
		{"alibi 0 0 0\nfunc\nreturn\n", one},
		{"alibi 0 0 0\nfunc\nreturn", one},
		{"\nalibi 0 0 0\nfunc\nreturn", one},
		{"\n\n\nalibi 0 0 0\n\n\nfunc\n\nreturn\n\n\n", one},
		{everyText, every()},
		{strings.ReplaceAll(everyText, "\n", "\n\n\n"), every()},
		{"alibi 16 16 8\nfunc\nreturn\n", api.Program{Globals: 16, Locks: 16, Slots: 8, Funcs: rets(1)}},
		{"alibi 1 2 3\nfunc\nskip 0\n", api.Program{Globals: 1, Locks: 2, Slots: 3, Funcs: [][]api.Node{{{}}}}},
		{"alibi 0 0 0\nfunc\nskip 2\nbranch 1 0\nreturn\nfunc\nreturn\n", api.Program{Funcs: [][]api.Node{{{Next: 2}, {Kind: api.Branch, Next: 1}, {Kind: api.Return}}, ret()}}},
		{"alibi 0 0 8\nfunc\nspawn 1 7 2\nspawn 0 0 0\njoin 7 0\nfunc\nreturn", api.Program{Slots: 8, Funcs: [][]api.Node{{{Kind: api.Spawn, Arg: 1, Alt: 7, Next: 2}, {Kind: api.Spawn}, {Kind: api.Join, Arg: 7}}, ret()}}},
	} {
		if p, n, e := Parse(c.s); n != 0 || e != 0 || !prog.Same(p, c.p) {
			t.Errorf("Parse(%q) = %v, %d, %d", c.s, p, n, e)
		}
		checkParse(t, c.s)
	}
	for _, p := range whole() {
		checkParse(t, printByHand(p))
	}
}

// 8.2: which line is wrong first, by its number among all lines; and lines ahead of what may not be.
func TestParseOfWrongLines(t *testing.T) {
	for _, c := range []struct {
		s    string
		line int
	}{
		// the first line
		{"alibi", 1}, {"alibi 0", 1}, {"alibi 0 0", 1}, {"alibi 0 0 0 0", 1}, {"alibi  0 0 0", 1}, {"alibi 0 0  0", 1}, {"alibi 0 0 0 ", 1}, {" alibi 0 0 0", 1}, {"alibi\t0 0 0", 1},
		{"Alibi 0 0 0", 1}, {"ALIBI 0 0 0", 1}, {"alib 0 0 0", 1}, {"alibis 0 0 0", 1}, {"alibi0 0 0", 1}, {"func\nreturn", 1}, {"return", 1}, {"alibi 0 0 0\r\nfunc\nreturn", 1}, {"\ufeffalibi 0 0 0", 1},
		{"\n\nalibi 0 0", 3}, {"\nfunc", 2}, {" ", 1}, {"\n \n", 2}, {"\x00", 1}, {"\t", 1}, {"\r", 1}, {"\n\r", 2}, {"x", 1}, {"0 0 0", 1}, {"skip 0", 1}, {"alibi 0 0 x", 1}, {"func 0 0 0", 1},
		{"func\nalibi 0 0 0\nfunc\nreturn", 1},

		// a first line once more
		{"alibi 0 0 0\nalibi 0 0 0\nfunc\nreturn", 2}, {"alibi 0 0 0\nfunc\nalibi 0 0 0", 3}, {"alibi 0 0 0\nfunc\nreturn\nalibi 0 0 0\n", 4}, {"alibi 0 0 0\nfunc\nreturn\nalibi", 4},

		// nodes without a function
		{"alibi 0 0 0\nreturn\n", 2}, {"alibi 0 0 0\nskip 0\nfunc\nreturn", 2}, {"alibi 0 0 0\n\n\nbranch 0 0\n", 4},

		// lines of functions
		{"alibi 0 0 0\nfunc 0\nreturn", 2}, {"alibi 0 0 0\nfunc \nreturn", 2}, {"alibi 0 0 0\n func\nreturn", 2}, {"alibi 0 0 0\nFunc\nreturn", 2}, {"alibi 0 0 0\nfun\nreturn", 2}, {"alibi 0 0 0\nfuncs\nreturn", 2},
		{"alibi 0 0 0\nfunc\nreturn\nfunc 1\nreturn", 4}, {"alibi 0 0 0\nfunc\r\nreturn", 2},

		// lines of nodes
		{"alibi 0 0 0\nfunc\nReturn", 3}, {"alibi 0 0 0\nfunc\nreturns", 3}, {"alibi 0 0 0\nfunc\nretur", 3}, {"alibi 0 0 0\nfunc\nreturn 0", 3}, {"alibi 0 0 0\nfunc\nreturn ", 3}, {"alibi 0 0 0\nfunc\n return", 3},
		{"alibi 0 0 0\nfunc\nskip", 3}, {"alibi 0 0 0\nfunc\nskip ", 3}, {"alibi 0 0 0\nfunc\nskip 0 0", 3}, {"alibi 0 0 0\nfunc\nskip 0 ", 3}, {"alibi 0 0 0\nfunc\nskip  0", 3}, {"alibi 0 0 0\nfunc\nskip0", 3},
		{"alibi 1 0 0\nfunc\nread", 3}, {"alibi 1 0 0\nfunc\nread 0", 3}, {"alibi 1 0 0\nfunc\nread 0 0 0", 3}, {"alibi 1 0 0\nfunc\nwrite 0", 3}, {"alibi 1 0 0\nfunc\nwrite 0 0 0", 3},
		{"alibi 0 1 0\nfunc\nlock 0", 3}, {"alibi 0 1 0\nfunc\nlock 0 0 0", 3}, {"alibi 0 1 0\nfunc\nunlock 0", 3}, {"alibi 0 1 0\nfunc\nunlock 0 0 0", 3},
		{"alibi 0 0 1\nfunc\nspawn 0 0", 3}, {"alibi 0 0 1\nfunc\nspawn 0 0 0 0", 3}, {"alibi 0 0 1\nfunc\njoin 0", 3}, {"alibi 0 0 1\nfunc\njoin 0 0 0", 3},
		{"alibi 0 0 0\nfunc\ncall 0", 3}, {"alibi 0 0 0\nfunc\ncall 0 0 0", 3}, {"alibi 0 0 0\nfunc\nbranch 0", 3}, {"alibi 0 0 0\nfunc\nbranch 0 0 0", 3},
		{"alibi 0 0 0\nfunc\n0", 3}, {"alibi 0 0 0\nfunc\n0 0", 3}, {"alibi 0 0 0\nfunc\n 0", 3}, {"alibi 0 0 0\nfunc\n ", 3}, {"alibi 0 0 0\nfunc\n\n\n\n \n", 6}, {"alibi 0 0 0\nfunc\nreturn\r", 3}, {"alibi 0 0 0\nfunc\nreturn\n\r", 4},
		{"alibi 0 0 0\nfunc\nreturn\x00", 3}, {"alibi 0 0 0\nfunc\nreturn\n\x00", 4}, {"alibi 0 0 0\nfunc\nreturn\n\xff", 4}, {"alibi 0 0 0\nfunc\nskip 0\xff", 3}, {"alibi 0 0 0\nfunc\nreturn # end", 3},

		// several, and ahead of what may not be
		{"alibi 0 0 0\nskip\nfunc 0", 2}, {"alibi 17 0 0\nfunc\nskip", 3}, {"alibi 0 0 0\nfunc\nskip 9\nskip x", 4}, {"alibi 0 0 0\nfunc\nfunc\nfunc x", 4}, {"alibi 0 0 0\nx", 2},
		{"alibi 0 0 0\nfunc\ncall 0 0\nreturn\nreturn\nskip -1\nskip -1", 6}, {"alibi 9999 0 0" + strings.Repeat("\nfunc", 20) + "\nx", 22},
		{"alibi 0 0 0\nfunc" + strings.Repeat("\nreturn", 100) + "\nx", 103},
	} {
		if p, n, e := Parse(c.s); n != c.line || e != api.ErrForm || !isNone(p) {
			t.Errorf("Parse(%q) = %v, %d, %d, not %d", c.s, p, n, e, c.line)
		}
		checkParse(t, c.s)
	}
}

// 8.2: of lines that may come, what may not be.
func TestParseOfWhatMayNotBe(t *testing.T) {
	for _, c := range []struct {
		s string
		e api.Errno
	}{
		{"", api.ErrArg}, {"\n", api.ErrArg}, {"\n\n\n", api.ErrArg}, {strings.Repeat("\n", 65536), api.ErrArg},
		{"alibi 0 0 0", api.ErrArg}, {"alibi 0 0 0\n", api.ErrArg}, {"alibi 17 17 9\n", api.ErrArg}, {"\n\nalibi 9999 9999 9999\n\n", api.ErrArg},
		{"alibi 0 0 0\nfunc", api.ErrArg}, {"alibi 0 0 0\nfunc\nfunc\nreturn", api.ErrArg}, {"alibi 0 0 0\nfunc\nreturn\nfunc\n", api.ErrArg}, {"alibi 0 0 0\nfunc\nreturn\nfunc\nfunc\nskip 1", api.ErrArg},
		{"alibi 17 0 0\nfunc\nreturn", api.ErrLong}, {"alibi 0 17 0\nfunc\nreturn", api.ErrLong}, {"alibi 0 0 9\nfunc\nreturn", api.ErrLong}, {"alibi 9999 9999 9999\nfunc", api.ErrLong},
		{"alibi 0 0 0" + strings.Repeat("\nfunc\nreturn", 17), api.ErrLong}, {"alibi 0 0 0\nfunc" + strings.Repeat("\nreturn", 65), api.ErrLong}, {"alibi 0 0 0" + strings.Repeat("\nfunc", 13000), api.ErrLong},
		{"alibi 0 0 0\nfunc\nskip 1", api.ErrForm}, {"alibi 0 0 0\nfunc\nskip 9999", api.ErrForm}, {"alibi 0 0 0\nfunc\nread 0 0", api.ErrForm}, {"alibi 1 0 0\nfunc\nwrite 1 0", api.ErrForm},
		{"alibi 0 1 0\nfunc\nlock 9999 0", api.ErrForm}, {"alibi 1 0 1\nfunc\nunlock 0 0", api.ErrForm}, {"alibi 0 0 1\nfunc\nspawn 0 1 0", api.ErrForm}, {"alibi 0 0 1\nfunc\nspawn 1 0 0", api.ErrForm},
		{"alibi 0 0 1\nfunc\nspawn 0 0 1", api.ErrForm}, {"alibi 0 0 0\nfunc\njoin 0 0", api.ErrForm}, {"alibi 0 0 0\nfunc\ncall 1 0", api.ErrForm}, {"alibi 0 0 0\nfunc\nbranch 0 1", api.ErrForm}, {"alibi 0 0 0\nfunc\nbranch 1 0", api.ErrForm},
		{"alibi 0 0 0\nfunc\nreturn\nskip 2\nfunc", api.ErrForm},
		{"alibi 0 0 0\nfunc\ncall 0 0", api.ErrRound}, {"alibi 0 0 0\nfunc\nreturn\nfunc\ncall 2 0\nfunc\ncall 1 0", api.ErrRound},
	} {
		if p, n, e := Parse(c.s); n != 0 || e != c.e || !isNone(p) {
			t.Errorf("Parse(%.50q) = %v, %d, %d, not %d", c.s, p, n, e, c.e)
		}
		checkParse(t, c.s)
	}
}

// 8.2: what a number is, wherever one may stand.
func TestParseOfNumbers(t *testing.T) {
	fronts := []string{"alibi ", "alibi 0 ", "alibi 0 0 ", "alibi 16 16 8\nfunc\nspawn 0 0 ", "alibi 16 16 8\nfunc\nreturn\nbranch ", "alibi 0 0 0\nfunc\nreturn\nreturn\nskip "}
	behind := []string{" 0 0\nfunc\nreturn", " 0\nfunc\nreturn", "\nfunc\nreturn", "\n", " 0", "\nreturn\nreturn"}
	for _, word := range []string{"0", "1", "2", "7", "8", "9", "10", "16", "17", "63", "64", "99", "100", "256", "999", "1000", "1234", "5678", "9998", "9999"} {
		for i, front := range fronts {
			s := front + word + behind[i]
			if p, n, e := Parse(s); n != 0 || (e != 0) != isNone(p) {
				t.Errorf("Parse(%q) = %v, %d, %d", s, p, n, e)
			}
			checkParse(t, s)
		}
	}
	for _, word := range []string{
		"", "00", "01", "09", "000", "001", "010", "0000", "0001", "0999", "00000", "00001", "10000", "10001", "99999", "12345", "65536", "4294967296", "18446744073709551616", strings.Repeat("0", 50000), strings.Repeat("1", 50000),
		"-1", "-0", "+0", "+1", "1-", "1+", "0x1", "1e0", "1_0", "1.", ".1", "0.", "a", "A", "x", "0a", "a0", "1a", "1 ", " 1", "\t1", "1\t", "1\r", "\r1", "\x00", "1\x00", "\x001", "/", ":", "1/", "1:", "/1", ":1", "'1'", "\"1\"", "1,", ",",
		"\u0661", "\uff11", "\u00b9", "\u00b2", "1\u0661", "\u06611", "\U0001d7d9", "\xff", "1\xff", "\xff1", "\xc3", "\u0130", "\u2460", "\u2008", "1\u00a0", "\u00a01", "\ufeff1", "\x7f", "\x80", "\xb1", "\u0131", "\u0231",
	} {
		for i, front := range fronts {
			s := front + word + behind[i]
			if p, n, e := Parse(s); n != 1+strings.Count(front, "\n") || e != api.ErrForm || !isNone(p) {
				t.Errorf("Parse(%.60q) = %v, %d, %d", s, p, n, e)
			}
			checkParse(t, s)
		}
	}
	for n := range 10001 {
		s := "alibi 0 0 0\nfunc\nskip " + strconv.Itoa(n)
		if line, e := checkParse(t, s); (line == 3) != (n > 9999) || (e == 0) != (n == 0) {
			t.Errorf("Parse(%q) = %d, %d", s, line, e)
		}
	}
}

// 8.2: 65536 bytes, and one more, whatever they are.
func TestParseOfManyBytes(t *testing.T) {
	for _, c := range []struct {
		s, more string
		n       int // of 65536 bytes
		e       api.Errno
	}{
		{"alibi 0 0 0\nfunc\nreturn\n", "\n", 0, api.OK},
		{everyText, "\n", 0, api.OK},
		{"", "\n", 0, api.ErrArg},
		{"", "x", 1, api.ErrForm},
		{"", " ", 1, api.ErrForm},
		{"alibi 0 0 0\n", "0", 2, api.ErrForm},
		{"alibi 0 0 0\nfunc\nskip ", "0", 3, api.ErrForm},
		{"alibi 0 0 0\nfunc\nskip ", " ", 3, api.ErrForm},
		{"alibi 0 0 0\nfunc\nskip", " 0", 3, api.ErrForm},
		{"alibi 0 0 0\n", "\nx", 3, api.ErrForm},
		{"alibi 0 0 0\n", "\xff", 2, api.ErrForm},
	} {
		for _, over := range []int{1, 2, 65536, 1 << 20} {
			s := (c.s + strings.Repeat(c.more, 65536+over))[:65536+over]
			if n, e := checkParse(t, s); n != 0 || e != api.ErrLong {
				t.Errorf("Parse of %d bytes that begin with %.30q = %d, %d", len(s), s, n, e)
			}
		}
		s := (c.s + strings.Repeat(c.more, 65536))[:65536]
		if n, e := checkParse(t, s); n != c.n || e != c.e {
			t.Errorf("Parse of 65536 bytes that begin with %.30q = %d, %d, not %d, %d", s, n, e, c.n, c.e)
		}
		checkParse(t, s[:65535])
	}
}

// 8.2: what is handed out is new memory, spare room included.
func TestParseIsNewMemory(t *testing.T) {
	p, _, _ := Parse(everyText)
	q, _, _ := Parse(everyText)
	for _, l := range q.Funcs {
		l = l[:cap(l)]
		for i := range l {
			l[i] = api.Node{Kind: 99}
		}
	}
	funcs := q.Funcs[:cap(q.Funcs)]
	for f := range funcs {
		funcs[f] = nil
	}
	if !prog.Same(p, every()) {
		t.Errorf("what Parse answered became %v", p)
	}
	for f, l := range p.Funcs {
		for _, n := range l[len(l):cap(l)] {
			if n != (api.Node{}) {
				t.Errorf("behind function %d stands %v", f, n)
			}
		}
		p.Funcs[f] = append(l, api.Node{Kind: 77})[:len(l)]
	}
	if !prog.Same(p, every()) {
		t.Errorf("two functions of one answer share memory")
	}
}

// 8.2, 8.3: each byte of a text changed to each other one, or to some of a long text; left out; told twice; and all ahead of it alone.
func TestParseOfEachByteChanged(t *testing.T) {
	met := map[api.Errno]int{}
	for _, p := range whole()[:len(whole())-1] {
		s := printByHand(p)
		some := "\n 019alibiskpfuncx\r\x00\xff"
		for at := range len(s) {
			for x := range 256 {
				if len(s) > 250 && (at%7 > 0 || !strings.Contains(some, string([]byte{byte(x)}))) {
					continue
				}
				_, e := checkParse(t, s[:at]+string([]byte{byte(x)})+s[at+1:])
				met[e]++
				_, e = checkParse(t, s[:at]+string([]byte{byte(x)})+s[at:])
				met[e]++
			}
			for _, u := range []string{s[:at], s[:at] + s[at+1:], s[:at] + "\n" + s[at:], s[:at] + " " + s[at:], s[at:]} {
				_, e := checkParse(t, u)
				met[e]++
			}
		}
	}
	for _, e := range []api.Errno{api.OK, api.ErrArg, api.ErrForm, api.ErrLong, api.ErrRound} {
		if met[e] < 5 {
			t.Errorf("Parse answered %d only %d times", e, met[e])
		}
	}
}

// 8.2, 8.3: all rows of up to five lines of some: what is read is printed as it was.
func TestParseOfAllShortRows(t *testing.T) {
	some := []string{"", "alibi 0 0 0", "alibi 1 1 1", "func", "return", "skip 0", "branch 1 0", "call 1 0", "spawn 0 0 1", "write 0 1", "skip 2", " ", "func 0", "skip"}
	read := 0
	rows := []string{""}
	for range 5 {
		longer := []string{}
		for _, row := range rows {
			for _, line := range some {
				s := row + line
				n, e := checkParse(t, s)
				if e == 0 {
					read++
				}
				if n == 0 {
					longer = append(longer, s+"\n")
				}
			}
		}
		rows = longer
	}
	if read < 99 {
		t.Errorf("only %d rows were read", read)
	}
}

// pick answers a function that answers numbers below n, another one each time.
func pick() func(n int) int {
	x := uint32(7)
	return func(n int) int {
		x = x*1664525 + 1013904223
		return int(x>>8) % n
	}
}

// program answers a program most of which may be.
func program(pick func(n int) int) api.Program {
	p := api.Program{Globals: pick(17), Locks: pick(17), Slots: pick(9)}
	funcs := 1 + pick(16)>>pick(4)
	for range funcs {
		size := 1 + pick(64)>>pick(6)
		l := []api.Node{}
		for len(l) < size {
			n := api.Node{Kind: pick(10)}
			field := reflect.ValueOf(&n).Elem()
			for _, name := range kinds[n.Kind].fields {
				field.FieldByName(name).SetInt(int64(pick([]int{2, 16, size}[pick(3)])))
			}
			if n.Kind == api.Call && n.Arg <= len(p.Funcs) && pick(20) > 0 {
				continue
			}
			if prog.May(api.Program{Globals: p.Globals, Locks: p.Locks, Slots: p.Slots, Funcs: rets(funcs)}, n, size) || pick(500) == 0 {
				l = append(l, n)
			}
		}
		p.Funcs = append(p.Funcs, l)
	}
	return p
}

// 8.1, 8.3: many programs: what is printed is read as it was.
func TestManyPrograms(t *testing.T) {
	pick := pick()
	met := map[api.Errno]int{}
	for range 2000 {
		p := program(pick)
		checkPrint(t, p)
		_, _, e := prog.Check(p)
		met[e]++
	}
	for _, e := range []api.Errno{api.OK, api.ErrForm, api.ErrRound} {
		if met[e] < 50 {
			t.Errorf("%d programs have the error %d", met[e], e)
		}
	}
}
