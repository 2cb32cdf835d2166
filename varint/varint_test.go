package varint

import (
	"bytes"
	"testing"

	"alibi/api"
)

// samples are numbers at and about each edge, and many between.
func samples() []uint32 {
	l := []uint32{0, 1, 300, 1<<32 - 1}
	for i := range 32 {
		l = append(l, 1<<i-1, 1<<i, 1<<i+1, ^uint32(0)>>i)
	}
	for n := uint64(0); n < 1<<32; n += 65521 {
		l = append(l, uint32(n))
	}
	return l
}

// byHand answers a number's bytes, as the chapter tells them.
func byHand(n uint32) []byte {
	if n < 128 {
		return []byte{byte(n)}
	}
	return append([]byte{byte(n%128) + 128}, byHand(n/128)...)
}

// getByHand answers what Get should: by the chapter's words, error by error.
func getByHand(b []byte) (uint32, int, api.Errno) {
	n, worth := uint64(0), uint64(1)
	for i := 0; ; i++ {
		switch {
		case i >= len(b):
			return 0, 0, api.ErrShort
		case i == 4 && b[i] > 15:
			return 0, 0, api.ErrLong
		case i != 0 && b[i] == 0:
			return 0, 0, api.ErrForm
		case b[i] < 128:
			return uint32(n + uint64(b[i])*worth), i + 1, api.OK
		}
		n, worth = n+uint64(b[i]-128)*worth, worth*128
	}
}

func checkGet(t *testing.T, b []byte) {
	t.Helper()
	n, used, e := Get(b)
	if wn, wu, we := getByHand(b); n != wn || used != wu || e != we {
		t.Fatalf("Get(%v) = %d, %d, %d; not %d, %d, %d", b, n, used, e, wn, wu, we)
	}
	if e == api.OK && !bytes.Equal(Put(n), b[:used]) {
		t.Fatalf("Get(%v) = %d, which has the bytes %v", b, n, Put(n))
	}
}

// 1.1
func TestPutAndSize(t *testing.T) {
	for _, c := range []struct {
		n uint32
		b []byte
	}{
		{0, []byte{0}},
		{1, []byte{1}},
		{127, []byte{127}},
		{128, []byte{128, 1}},
		{300, []byte{172, 2}},
		{1<<14 - 1, []byte{255, 127}},
		{1 << 14, []byte{128, 128, 1}},
		{1<<21 - 1, []byte{255, 255, 127}},
		{1 << 21, []byte{128, 128, 128, 1}},
		{1<<28 - 1, []byte{255, 255, 255, 127}},
		{1 << 28, []byte{128, 128, 128, 128, 1}},
		{1<<32 - 1, []byte{255, 255, 255, 255, 15}},
	} {
		if b := Put(c.n); !bytes.Equal(b, c.b) {
			t.Errorf("Put(%d) = %v, not %v", c.n, b, c.b)
		}
		if s := Size(c.n); s != len(c.b) {
			t.Errorf("Size(%d) = %d, not %d", c.n, s, len(c.b))
		}
	}
}

// 1.1
func TestPutAsTheChapterTells(t *testing.T) {
	for _, n := range samples() {
		b := byHand(n)
		if !bytes.Equal(Put(n), b) || Size(n) != len(b) {
			t.Fatalf("Put(%d) = %v, Size %d; not %v", n, Put(n), Size(n), b)
		}
	}
}

// 1.1
func TestRow(t *testing.T) {
	if b := Row(); len(b) != 0 {
		t.Errorf("Row() = %v", b)
	}
	if b := Row(nil...); len(b) != 0 {
		t.Errorf("Row of nil = %v", b)
	}
	if b := Row(7); !bytes.Equal(b, []byte{7}) {
		t.Errorf("Row(7) = %v", b)
	}
	if b := Row(1, 300, 0, 0, 1<<32-1); !bytes.Equal(b, []byte{1, 172, 2, 0, 0, 255, 255, 255, 255, 15}) {
		t.Errorf("Row(1, 300, 0, 0, 2^32 - 1) = %v", b)
	}
	l := samples()
	var want []byte
	for _, n := range l {
		want = append(want, byHand(n)...)
	}
	if !bytes.Equal(Row(l...), want) {
		t.Error("Row of many isn't the bytes of all, one behind the other")
	}
}

// 1.1: what is handed in isn't changed.
func TestRowLeavesWhatIsHandedIn(t *testing.T) {
	l := []uint32{1, 300, 1 << 31, 77, 88}
	Row(l[:3]...)
	for i, n := range []uint32{1, 300, 1 << 31, 77, 88} {
		if l[i] != n {
			t.Errorf("number %d became %d", i, l[i])
		}
	}
}

// 1.1: what is handed out is new memory, spare room included.
func TestNewMemory(t *testing.T) {
	spoil := func(b []byte) {
		b = b[:cap(b)]
		for i := range b {
			b[i] = 99
		}
	}
	for _, n := range []uint32{0, 127, 128, 1<<32 - 1} {
		a := Put(n)
		spoil(Put(n))
		if !bytes.Equal(a, byHand(n)) {
			t.Errorf("two answers of Put(%d) share memory", n)
		}
		a = Row(n, n)
		spoil(Row(n, n))
		if !bytes.Equal(a, append(byHand(n), byHand(n)...)) {
			t.Errorf("two answers of Row(%d, %d) share memory", n, n)
		}
	}
}

// 1.2
func TestGet(t *testing.T) {
	for _, c := range []struct {
		b    []byte
		n    uint32
		used int
		e    api.Errno
	}{
		{[]byte{0}, 0, 1, api.OK},
		{[]byte{0, 0}, 0, 1, api.OK},
		{[]byte{0, 128}, 0, 1, api.OK},
		{[]byte{127}, 127, 1, api.OK},
		{[]byte{172, 2}, 300, 2, api.OK},
		{[]byte{172, 2, 172, 2}, 300, 2, api.OK},
		{[]byte{128, 1}, 128, 2, api.OK},
		{[]byte{128, 128, 128, 128, 1}, 1 << 28, 5, api.OK},
		{[]byte{255, 255, 255, 255, 15}, 1<<32 - 1, 5, api.OK},
		{[]byte{255, 255, 255, 255, 15, 255}, 1<<32 - 1, 5, api.OK},

		{nil, 0, 0, api.ErrShort},
		{[]byte{}, 0, 0, api.ErrShort},
		{[]byte{128}, 0, 0, api.ErrShort},
		{[]byte{255, 255}, 0, 0, api.ErrShort},
		{[]byte{255, 255, 255}, 0, 0, api.ErrShort},
		{[]byte{255, 255, 255, 255}, 0, 0, api.ErrShort},

		{[]byte{255, 255, 255, 255, 16}, 0, 0, api.ErrLong},
		{[]byte{255, 255, 255, 255, 127}, 0, 0, api.ErrLong},
		{[]byte{255, 255, 255, 255, 128}, 0, 0, api.ErrLong},
		{[]byte{255, 255, 255, 255, 255}, 0, 0, api.ErrLong},
		{[]byte{128, 128, 128, 128, 128, 0}, 0, 0, api.ErrLong},
		{[]byte{128, 128, 128, 128, 16, 0}, 0, 0, api.ErrLong},
		{[]byte{255, 255, 255, 255, 255, 255, 1}, 0, 0, api.ErrLong},

		{[]byte{128, 0}, 0, 0, api.ErrForm},
		{[]byte{128, 0, 128}, 0, 0, api.ErrForm},
		{[]byte{255, 0, 1}, 0, 0, api.ErrForm},
		{[]byte{128, 128, 0}, 0, 0, api.ErrForm},
		{[]byte{255, 255, 255, 0}, 0, 0, api.ErrForm},
		{[]byte{255, 255, 255, 255, 0}, 0, 0, api.ErrForm},
		{[]byte{255, 255, 255, 255, 0, 255}, 0, 0, api.ErrForm},
	} {
		if n, used, e := Get(c.b); n != c.n || used != c.used || e != c.e {
			t.Errorf("Get(%v) = %d, %d, %d; not %d, %d, %d", c.b, n, used, e, c.n, c.used, c.e)
		}
	}
}

// 1.2: of bytes behind the end of what is handed in, but in its spare room, Get knows nothing, and changes none.
func TestGetKeepsToItsBytes(t *testing.T) {
	b := []byte{172, 2, 9}
	if n, used, e := Get(b[:1]); n != 0 || used != 0 || e != api.ErrShort {
		t.Errorf("Get(172) = %d, %d, %d", n, used, e)
	}
	Get(b)
	if !bytes.Equal(b, []byte{172, 2, 9}) {
		t.Errorf("Get made the bytes %v", b)
	}
}

// 1.2, 1.3: of all rows of up to three bytes.
func TestGetShortRows(t *testing.T) {
	checkGet(t, nil)
	for i := range 256 {
		checkGet(t, []byte{byte(i)})
		for j := range 256 {
			checkGet(t, []byte{byte(i), byte(j)})
		}
	}
	b := make([]byte, 3)
	for i := range 1 << 24 {
		b[0], b[1], b[2] = byte(i), byte(i>>8), byte(i>>16)
		if b[0] >= 128 && b[1] >= 128 { // else the third one isn't looked at
			checkGet(t, b)
		}
	}
}

// 1.2, 1.3: of all rows of up to six bytes that stand at an edge.
func TestGetLongRows(t *testing.T) {
	edges := []byte{0, 1, 15, 16, 17, 127, 128, 129, 143, 144, 254, 255}
	var grow func(b []byte)
	grow = func(b []byte) {
		checkGet(t, b)
		if len(b) == 6 {
			return
		}
		for _, x := range edges {
			grow(append(b[:len(b):len(b)], x))
		}
	}
	grow(nil)
}

// 1.2, 1.3: whatever the fifth byte is.
func TestGetFifthByte(t *testing.T) {
	for i := range 256 {
		for _, low := range []byte{128, 129, 200, 255} {
			checkGet(t, []byte{low, low, low, low, byte(i)})
			checkGet(t, []byte{low, low, low, low, byte(i), 0})
			checkGet(t, []byte{low, low, low, low, byte(i), 1})
		}
	}
}

// 1.3
func TestWhatIsPutIsRead(t *testing.T) {
	for _, n := range samples() {
		b := Put(n)
		for _, behind := range [][]byte{nil, {0}, {1}, {127}, {128}, {255}, {0, 0}, {128, 0}, {255, 255, 255, 255, 255}} {
			if m, used, e := Get(append(b[:len(b):len(b)], behind...)); m != n || used != len(b) || e != api.OK {
				t.Fatalf("Get(Put(%d), %v) = %d, %d, %d", n, behind, m, used, e)
			}
		}
		for i := range b {
			if m, used, e := Get(b[:i]); m != 0 || used != 0 || e != api.ErrShort {
				t.Fatalf("Get of the first %d bytes of %d = %d, %d, %d", i, n, m, used, e)
			}
		}
	}
}

// 1.3
func TestRowIsReadOneByOne(t *testing.T) {
	l := samples()
	b := Row(l...)
	for i, n := range l {
		m, used, e := Get(b)
		if m != n || used != Size(n) || e != api.OK {
			t.Fatalf("number %d of a row is %d, of %d bytes, error %d; not %d", i, m, used, e, n)
		}
		b = b[used:]
	}
	if len(b) != 0 {
		t.Errorf("%d bytes are left over", len(b))
	}
}
