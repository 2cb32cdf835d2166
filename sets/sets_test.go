package sets

import (
	"math"
	"slices"
	"testing"

	"alibi/api"
)

// numbers are all ids, those about them, and some that become ids, if bits of them are lost.
func numbers() []int {
	l := []int{math.MinInt, math.MinInt + 1, math.MinInt32, math.MaxInt32, math.MaxInt, 255, 256, -256}
	for i := -70; i <= 100; i++ {
		l = append(l, i)
	}
	for i := range 33 {
		l = append(l, 1<<32+i, -1<<32+i, 1<<31+i, 1<<8+i, 1<<16+i, math.MinInt+i)
	}
	return l
}

// samples are sets at and about each edge, and many between.
func samples() []uint32 {
	l := []uint32{0, 13, 1<<32 - 1, 0x55555555, 0xaaaaaaaa, 0xffff0000, 0x0000ffff}
	for i := range 32 {
		l = append(l, 1<<i, 1<<i-1, ^uint32(1<<i), ^uint32(0)<<i, 1<<i|1, 1<<i|1<<31)
	}
	x := uint32(1)
	for range 3000 {
		x = x*1664525 + 1013904223
		l = append(l, x, x>>(x>>27), x<<(x>>27))
	}
	return l
}

// members tells of each id whether it is in a set, by dividing.
func members(m uint32) [32]bool {
	in := [32]bool{}
	for i := range in {
		in[i] = m%2 == 1
		m /= 2
	}
	return in
}

// value answers the set of ids, by adding.
func value(ids ...int) uint32 {
	worth := [32]uint32{1}
	for i := 1; i < 32; i++ {
		worth[i] = 2 * worth[i-1]
	}
	m := uint32(0)
	for _, id := range ids {
		m += worth[id]
	}
	return m
}

// idsOf answers the ids of a set, rising.
func idsOf(m uint32) []int {
	var l []int
	for id, in := range members(m) {
		if in {
			l = append(l, id)
		}
	}
	return l
}

// below answers the numbers from 0 on that are less than n.
func below(n int) []int {
	var l []int
	for i := 0; i < n; i++ {
		l = append(l, i)
	}
	return l
}

// ofByHand answers what Of should: by the chapter's words, error by error.
func ofByHand(l []int, size int) (uint32, api.Errno) {
	for i := range l {
		switch {
		case l[i] < 0 || l[i] >= size || l[i] >= 32:
			return 0, api.ErrArg
		case i != 0 && l[i-1] >= l[i]:
			return 0, api.ErrOrder
		}
	}
	return value(l...), api.OK
}

func checkOf(t *testing.T, l []int, size int) {
	t.Helper()
	m, e := Of(l, size)
	if wm, we := ofByHand(l, size); m != wm || e != we {
		t.Fatalf("Of(%v, %d) = %d, %d; not %d, %d", l, size, m, e, wm, we)
	}
}

// 3.1
func TestMost(t *testing.T) {
	if Most != 32 {
		t.Errorf("Most is %d", Most)
	}
}

// 3.1
func TestAll(t *testing.T) {
	for _, c := range []struct {
		n int
		m uint32
	}{
		{0, 0}, {1, 1}, {2, 3}, {3, 7}, {8, 255}, {16, 65535},
		{31, 1<<31 - 1}, {32, 1<<32 - 1}, {33, 1<<32 - 1}, {63, 1<<32 - 1}, {64, 1<<32 - 1}, {65, 1<<32 - 1},
		{1 << 32, 1<<32 - 1}, {1<<32 + 1, 1<<32 - 1}, {math.MaxInt, 1<<32 - 1},
		{-1, 0}, {-31, 0}, {-32, 0}, {-33, 0}, {-64, 0}, {-1<<32 + 5, 0}, {math.MinInt, 0},
	} {
		if m := All(c.n); m != c.m {
			t.Errorf("All(%d) = %x, not %x", c.n, m, c.m)
		}
	}
	for _, n := range numbers() {
		if m, want := All(n), value(below(min(n, 32))...); m != want {
			t.Errorf("All(%d) = %x, not %x", n, m, want)
		}
	}
}

// 3.1
func TestHas(t *testing.T) {
	for _, c := range []struct {
		m  uint32
		id int
		in bool
	}{
		{0, 0, false}, {0, 31, false}, {4, 2, true}, {4, 1, false}, {4, 3, false}, {1, 0, true},
		{1 << 31, 31, true}, {1 << 31, 30, false}, {1<<31 - 1, 31, false},
		{1<<32 - 1, 0, true}, {1<<32 - 1, 31, true},
		{1<<32 - 1, -1, false}, {1<<32 - 1, 32, false}, {1<<32 - 1, 64, false}, {1<<32 - 1, -32, false},
		{1<<32 - 1, math.MinInt, false}, {1<<32 - 1, math.MaxInt, false}, {1<<32 - 1, 1 << 32, false},
	} {
		if in := Has(c.m, c.id); in != c.in {
			t.Errorf("Has(%x, %d) = %v", c.m, c.id, in)
		}
	}
	for _, m := range samples()[:600] {
		in := members(m)
		for _, id := range numbers() {
			if want := id >= 0 && id < 32 && in[id]; Has(m, id) != want {
				t.Fatalf("Has(%x, %d) = %v", m, id, !want)
			}
		}
	}
}

// 3.1
func TestOne(t *testing.T) {
	if One(0) != 1 || One(2) != 4 || One(31) != 1<<31 {
		t.Errorf("One of 0, 2, 31: %x, %x, %x", One(0), One(2), One(31))
	}
	for _, id := range numbers() {
		want := uint32(0)
		if id >= 0 && id < 32 {
			want = value(id)
		}
		if m := One(id); m != want {
			t.Errorf("One(%d) = %x, not %x", id, m, want)
		}
	}
}

// 3.1
func TestWithin(t *testing.T) {
	for _, c := range []struct {
		a, b uint32
		in   bool
	}{
		{0, 0, true}, {0, 5, true}, {5, 0, false}, {5, 5, true}, {5, 7, true}, {7, 5, false}, {5, 6, false}, {2, 4, false},
		{1 << 31, 1<<32 - 1, true}, {1<<32 - 1, 1<<31 - 1, false}, {1<<32 - 1, 1<<32 - 1, true}, {1<<32 - 1, 1<<32 - 2, false},
		{1 << 31, 1, false}, {1, 1 << 31, false},
	} {
		if in := Within(c.a, c.b); in != c.in {
			t.Errorf("Within(%x, %x) = %v", c.a, c.b, in)
		}
	}
	l := samples()[:400]
	for _, a := range l {
		ina := members(a)
		for _, b := range l {
			inb, want := members(b), true
			for id := range ina {
				want = want && (!ina[id] || inb[id])
			}
			if Within(a, b) != want {
				t.Fatalf("Within(%x, %x) = %v", a, b, !want)
			}
		}
	}
}

// 3.1
func TestCountAndLeast(t *testing.T) {
	for _, c := range []struct {
		m            uint32
		count, least int
	}{
		{0, 0, -1}, {1, 1, 0}, {2, 1, 1}, {12, 2, 2}, {13, 3, 0}, {1 << 31, 1, 31}, {3 << 30, 2, 30},
		{1<<31 - 1, 31, 0}, {1<<32 - 1, 32, 0}, {1<<32 - 2, 31, 1},
	} {
		if n := Count(c.m); n != c.count {
			t.Errorf("Count(%x) = %d, not %d", c.m, n, c.count)
		}
		if id := Least(c.m); id != c.least {
			t.Errorf("Least(%x) = %d, not %d", c.m, id, c.least)
		}
	}
	for _, m := range samples() {
		ids := idsOf(m)
		if n := Count(m); n != len(ids) {
			t.Fatalf("Count(%x) = %d, not %d", m, n, len(ids))
		}
		if id, want := Least(m), append(ids, -1)[0]; id != want {
			t.Fatalf("Least(%x) = %d, not %d", m, id, want)
		}
	}
}

// 3.1: the chapter's first example among them.
func TestList(t *testing.T) {
	for _, c := range []struct {
		m uint32
		l []int
	}{
		{0, nil}, {1, []int{0}}, {13, []int{0, 2, 3}}, {1 << 31, []int{31}}, {1<<31 | 1, []int{0, 31}}, {1<<32 - 1, below(32)},
	} {
		if l := List(c.m); !slices.Equal(l, c.l) {
			t.Errorf("List(%x) = %v, not %v", c.m, l, c.l)
		}
	}
	for _, m := range samples() {
		if l := List(m); !slices.Equal(l, idsOf(m)) {
			t.Fatalf("List(%x) = %v, not %v", m, l, idsOf(m))
		}
	}
}

// 3.1
func TestMeet(t *testing.T) {
	for _, c := range []struct {
		l []uint32
		m uint32
	}{
		{nil, 1<<32 - 1}, {[]uint32{}, 1<<32 - 1}, {[]uint32{0}, 0}, {[]uint32{13}, 13}, {[]uint32{1 << 31}, 1 << 31},
		{[]uint32{1<<32 - 1}, 1<<32 - 1}, {[]uint32{7, 6}, 6}, {[]uint32{6, 7}, 6}, {[]uint32{5, 6, 12}, 4},
		{[]uint32{3, 6, 12}, 0}, {[]uint32{7, 7, 0}, 0}, {[]uint32{0, 7, 7}, 0}, {[]uint32{7, 0, 7}, 0},
		{[]uint32{1<<31 | 1, 1<<31 | 2}, 1 << 31},
	} {
		if m := Meet(c.l); m != c.m {
			t.Errorf("Meet(%v) = %x, not %x", c.l, m, c.m)
		}
	}
	all := samples()
	for i := range len(all) - 5 {
		for n := range 5 {
			checkMeet(t, all[i:i+n])
		}
	}
}

func checkMeet(t *testing.T, l []uint32) {
	t.Helper()
	in := members(Meet(l))
	for id := range in {
		want := true
		for _, m := range l {
			want = want && members(m)[id]
		}
		if in[id] != want {
			t.Fatalf("Meet(%x) = %x, of which %d is wrong", l, Meet(l), id)
		}
	}
}

// 3.2: the chapter's second example among them.
func TestOf(t *testing.T) {
	for _, c := range []struct {
		l    []int
		size int
		m    uint32
		e    api.Errno
	}{
		{nil, 0, 0, api.OK}, {nil, -1, 0, api.OK}, {[]int{}, 32, 0, api.OK}, {nil, math.MinInt, 0, api.OK}, {nil, math.MaxInt, 0, api.OK},
		{[]int{0}, 1, 1, api.OK}, {[]int{0, 3}, 4, 9, api.OK}, {[]int{0, 2, 3}, 4, 13, api.OK}, {[]int{0, 31}, 32, 1<<31 | 1, api.OK},
		{[]int{31}, 33, 1 << 31, api.OK}, {[]int{31}, math.MaxInt, 1 << 31, api.OK}, {below(32), 32, 1<<32 - 1, api.OK},

		{[]int{0}, 0, 0, api.ErrArg}, {[]int{0}, -1, 0, api.ErrArg}, {[]int{-1}, -1, 0, api.ErrArg}, {[]int{0}, math.MinInt, 0, api.ErrArg},
		{[]int{4}, 4, 0, api.ErrArg}, {[]int{-1}, 4, 0, api.ErrArg}, {[]int{0, 1, 4}, 4, 0, api.ErrArg},
		{[]int{31}, 31, 0, api.ErrArg}, {[]int{32}, 32, 0, api.ErrArg}, {[]int{32}, 33, 0, api.ErrArg}, {[]int{63}, 64, 0, api.ErrArg},
		{[]int{32}, math.MaxInt, 0, api.ErrArg}, {[]int{math.MaxInt}, math.MaxInt, 0, api.ErrArg}, {[]int{math.MinInt}, 32, 0, api.ErrArg},
		{[]int{1 << 32}, math.MaxInt, 0, api.ErrArg}, {below(33), 33, 0, api.ErrArg},

		{[]int{2, 1}, 9, 0, api.ErrOrder}, {[]int{3, 3}, 4, 0, api.ErrOrder}, {[]int{0, 0}, 1, 0, api.ErrOrder},
		{[]int{31, 31}, 32, 0, api.ErrOrder}, {[]int{31, 0}, 40, 0, api.ErrOrder}, {[]int{0, 5, 3}, 32, 0, api.ErrOrder},
		{append(below(32), 31), 32, 0, api.ErrOrder}, {append(below(32), 0), 32, 0, api.ErrOrder},
	} {
		if m, e := Of(c.l, c.size); m != c.m || e != c.e {
			t.Errorf("Of(%v, %d) = %x, %d; not %x, %d", c.l, c.size, m, e, c.m, c.e)
		}
	}
}

// 3.2: the error that is met first is the answer: element by element, and of one element ErrArg ahead of ErrOrder.
func TestOfWhichErrorIsMetFirst(t *testing.T) {
	for _, c := range []struct {
		l    []int
		size int
		e    api.Errno
	}{
		{[]int{2, -1}, 4, api.ErrArg},     // of one element both
		{[]int{3, 0, 4}, 4, api.ErrOrder}, // the order is wrong ahead of the number
		{[]int{3, 0, -1}, 4, api.ErrOrder},
		{[]int{4, 0}, 4, api.ErrArg}, // the number ahead of the order
		{[]int{0, 4, 4}, 4, api.ErrArg},
		{[]int{-1, -1}, 4, api.ErrArg},
		{[]int{31, 31, 32}, 99, api.ErrOrder},
		{[]int{31, 32, 31}, 99, api.ErrArg},
		{[]int{1, 1, math.MinInt}, 9, api.ErrOrder},
		{[]int{1, math.MinInt, 1}, 9, api.ErrArg},
	} {
		if m, e := Of(c.l, c.size); m != 0 || e != c.e {
			t.Errorf("Of(%v, %d) = %x, %d; not 0, %d", c.l, c.size, m, e, c.e)
		}
	}
}

// 3.2: all lists of up to four small numbers, of all small sizes.
func TestOfShortLists(t *testing.T) {
	var grow func(l []int, size int)
	grow = func(l []int, size int) {
		checkOf(t, l, size)
		if len(l) == 4 {
			return
		}
		for n := -2; n <= 6; n++ {
			grow(append(l[:len(l):len(l)], n), size)
		}
	}
	for size := -2; size <= 7; size++ {
		grow(nil, size)
	}
}

// 3.2: numbers and sizes at the edge of what may be an id.
func TestOfEdges(t *testing.T) {
	l := numbers()
	for _, size := range l {
		for _, n := range l {
			checkOf(t, []int{n}, size)
			checkOf(t, []int{0, n}, size)
			checkOf(t, []int{n, 31}, size)
			checkOf(t, []int{n, n}, size)
		}
		for n := range 40 {
			checkOf(t, below(n), size)
		}
	}
}

// 3.3
func TestTheSetOfWhatIsListed(t *testing.T) {
	for _, m := range samples() {
		l := List(m)
		size := append(idsOf(m), 0)
		for _, n := range []int{slices.Max(size) + 1, 32, 33, math.MaxInt} {
			if o, e := Of(l, n); o != m || e != api.OK {
				t.Fatalf("Of(List(%x), %d) = %x, %d", m, n, o, e)
			}
		}
	}
}

// 3.3: the other way round: what rises is the list of its set.
func TestTheListOfASet(t *testing.T) {
	for _, l := range [][]int{nil, {0}, {31}, {0, 31}, {1, 2, 3}, {0, 2, 4, 8, 16}, below(31), below(32)} {
		m, e := Of(l, 32)
		if o := List(m); !slices.Equal(o, l) || e != api.OK {
			t.Errorf("List(Of(%v)) = %v, %d", l, o, e)
		}
	}
}

// 3.1, 3.2: what is handed in isn't changed, spare room included.
func TestLeavesWhatIsHandedIn(t *testing.T) {
	for n := range 6 {
		ids := []int{0, 3, 2, 40, 5}
		Of(ids[:n], 9)
		if !slices.Equal(ids, []int{0, 3, 2, 40, 5}) {
			t.Errorf("Of made %v of what it was handed", ids)
		}
		l := []uint32{7, 6, 4, 1, 9}
		Meet(l[:n])
		if !slices.Equal(l, []uint32{7, 6, 4, 1, 9}) {
			t.Errorf("Meet made %v of what it was handed", l)
		}
	}
}

// 3.1: what is handed out is new memory, spare room included.
func TestNewMemory(t *testing.T) {
	for _, m := range []uint32{0, 1, 13, 1 << 31, 1<<32 - 1} {
		a, b := List(m), List(m)
		b = b[:cap(b)]
		for i := range b {
			b[i] = 99
		}
		if !slices.Equal(a, idsOf(m)) || !slices.Equal(List(m), idsOf(m)) {
			t.Errorf("two answers of List(%x) share memory", m)
		}
	}
}
