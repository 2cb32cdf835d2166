package sha

import (
	"bytes"
	"crypto/sha256"
	"encoding/hex"
	"strings"
	"testing"
)

// sample answers n bytes that look like none in particular.
func sample(n int) []byte {
	b := make([]byte, n)
	x := uint32(n) + 1
	for i := range b {
		x = x*1664525 + 1013904223
		b[i] = byte(x >> 24)
	}
	return b
}

func checkSum(t *testing.T, what string, got [32]byte, all []byte) {
	t.Helper()
	if want := sha256.Sum256(all); got != want {
		t.Fatalf("%s: %x, not %x", what, got, want)
	}
}

// 2.1: digests that are known: the chapter's, and the standard's own examples.
func TestKnownDigests(t *testing.T) {
	for _, c := range []struct{ text, want string }{
		{"", "e3b0c44298fc1c149afbf4c8996fb92427ae41e4649b934ca495991b7852b855"},
		{"abc", "ba7816bf8f01cfea414140de5dae2223b00361a396177a9cb410ff61f20015ad"},
		{"abcdbcdecdefdefgefghfghighijhijkijkljklmklmnlmnomnopnopq", "248d6a61d20638b8e5c026930c3e6039a33ce45964ff2167f6ecedd419db06c1"},
		{"abcdefghbcdefghicdefghijdefghijkefghijklfghijklmghijklmnhijklmnoijklmnopjklmnopqklmnopqrlmnopqrsmnopqrstnopqrstu", "cf5b16a778af8380036ce59e7b0492370b249b11e8f07a51afac45037afee9d1"},
		{strings.Repeat("a", 1000000), "cdc76e5c9914fb9281a1c7e284d73e67f1809a48a497200e046d39ccc7112cd0"},
	} {
		d := Of([]byte(c.text))
		if got := hex.EncodeToString(d[:]); got != c.want {
			t.Errorf("Of(%.20q), %d bytes: %s, not %s", c.text, len(c.text), got, c.want)
		}
		s := New()
		s.Write([]byte(c.text))
		if s.Sum() != d {
			t.Errorf("Sum behind %.20q: %x, not %x", c.text, s.Sum(), d)
		}
	}
}

// 2.1: every length about the ends of the first blocks: 55 and 56 (where the length needs a block more), 63 to 65, and so on.
func TestEveryLength(t *testing.T) {
	for n := range 1100 {
		b := sample(n)
		checkSum(t, "Of", Of(b), b)
	}
	for _, n := range []int{8191, 8192, 8193, 65536, 1<<20 + 55, 1<<20 + 56} {
		b := sample(n)
		checkSum(t, "Of", Of(b), b)
	}
}

// 2.1: each bit of what came tells, wherever it stands.
func TestEachBit(t *testing.T) {
	b := sample(130)
	met := map[[32]byte]bool{Of(b): true}
	for i := range 8 * len(b) {
		b[i/8] ^= 1 << (i % 8)
		d := Of(b)
		checkSum(t, "a bit turned", d, b)
		if met[d] {
			t.Fatalf("bit %d tells nothing", i)
		}
		met[d] = true
		b[i/8] ^= 1 << (i % 8)
	}
}

// 2.1: bytes that are all alike: zeros, such as stand behind the end, and the end's own.
func TestBytesAllAlike(t *testing.T) {
	for _, x := range []byte{0, 128, 255} {
		for n := range 200 {
			b := bytes.Repeat([]byte{x}, n)
			checkSum(t, "all alike", Of(b), b)
		}
	}
}

// 2.1: the length is told in bits, and goes beyond 32 of them from 2^29 bytes on.
func TestLongLength(t *testing.T) {
	if testing.Short() {
		t.Skip("takes seconds")
	}
	s, want := New(), sha256.New()
	b := sample(1 << 20)
	for range 1 << 9 {
		s.Write(b)
		want.Write(b)
	}
	s.Write(b[:77])
	want.Write(b[:77])
	if d := s.Sum(); !bytes.Equal(d[:], want.Sum(nil)) {
		t.Errorf("2^29 bytes and 77: %x, not %x", d, want.Sum(nil))
	}
}

// 2.1: Sum changes nothing: it answers the same again, and more may come.
func TestSumChangesNothing(t *testing.T) {
	b := sample(300)
	s := New()
	for i := range b {
		checkSum(t, "Sum", s.Sum(), b[:i])
		checkSum(t, "Sum again", s.Sum(), b[:i])
		s.Write(b[i : i+1])
	}
	checkSum(t, "Sum", s.Sum(), b)
}

// 2.1
func TestParts(t *testing.T) {
	none := sha256.Sum256(nil)
	if Of() != none || Of(nil) != none || Of(nil, []byte{}, nil) != none || Of([][]byte(nil)...) != none {
		t.Error("parts without bytes aren't nothing")
	}
	b := sample(200)
	for i := range len(b) + 1 {
		checkSum(t, "two parts", Of(b[:i], b[i:]), b)
		checkSum(t, "three parts", Of(b[:i/2], b[i/2:i], b[i:]), b)
		checkSum(t, "parts and nothing", Of(nil, b[:i], nil, b[i:], []byte{}), b)
	}
	if Of(b[:70], b[70:]) == Of(b[70:], b[:70]) {
		t.Error("which part comes first tells nothing")
	}
	var parts [][]byte
	for i := range b {
		parts = append(parts, b[i:i+1])
	}
	checkSum(t, "a part for each byte", Of(parts...), b)
}

// 2.1: nothing is handed in by a Write of nothing.
func TestWriteNothing(t *testing.T) {
	b := sample(150)
	for _, n := range []int{0, 1, 55, 56, 63, 64, 65, 128, 150} {
		s := New()
		s.Write(nil)
		s.Write(b[:n])
		s.Write([]byte{})
		s.Write(nil)
		checkSum(t, "Write of nothing", s.Sum(), b[:n])
	}
}

// 2.2: however bytes are parted into writes, the digest is the same.
func TestTwoWrites(t *testing.T) {
	for _, n := range []int{0, 1, 2, 54, 55, 56, 57, 63, 64, 65, 119, 120, 127, 128, 129, 191, 192, 193, 260} {
		b := sample(n)
		for i := range n + 1 {
			s := New()
			s.Write(b[:i])
			s.Write(b[i:])
			checkSum(t, "two writes", s.Sum(), b)
		}
	}
}

// 2.2
func TestThreeWrites(t *testing.T) {
	b := sample(200)
	want := Of(b)
	checkSum(t, "one write", want, b)
	for i := range len(b) + 1 {
		for j := i; j <= len(b); j++ {
			s := New()
			s.Write(b[:i])
			s.Write(b[i:j])
			s.Write(b[j:])
			if s.Sum() != want {
				t.Fatalf("parted at %d and %d: %x, not %x", i, j, s.Sum(), want)
			}
		}
	}
}

// 2.2: pieces of one length each, from a byte to several blocks.
func TestEvenWrites(t *testing.T) {
	b := sample(1000)
	for size := 1; size <= 300; size++ {
		s := New()
		for rest := b; len(rest) > 0; {
			n := min(size, len(rest))
			s.Write(rest[:n])
			rest = rest[n:]
		}
		checkSum(t, "even writes", s.Sum(), b)
	}
}

// 2.2: pieces of lengths that follow no rule.
func TestUnevenWrites(t *testing.T) {
	b := sample(2000)
	for start := range 100 {
		s := New()
		x := uint32(start)
		for rest := b; len(rest) > 0; {
			x = x*1664525 + 1013904223
			n := min(int(x>>24)%200, len(rest))
			s.Write(rest[:n])
			rest = rest[n:]
		}
		checkSum(t, "uneven writes", s.Sum(), b)
	}
}

// 2.1: what is handed in isn't changed, spare room included.
func TestLeavesWhatIsHandedIn(t *testing.T) {
	for n := range 200 {
		b := sample(300)
		Of(b[:n], b[:n/2])
		s := New()
		s.Write(b[:n])
		s.Sum()
		if !bytes.Equal(b, sample(300)) {
			t.Fatalf("what was handed in, %d bytes, is changed", n)
		}
	}
	parts := [][]byte{[]byte("ab"), nil, []byte("c"), []byte("behind")}
	Of(parts[:3]...)
	if string(parts[0]) != "ab" || parts[1] != nil || string(parts[2]) != "c" || string(parts[3]) != "behind" {
		t.Errorf("the parts became %q", parts)
	}
}

// 2.1: what is handed in isn't kept: it may be used again.
func TestKeepsNothingOfWhatIsHandedIn(t *testing.T) {
	var all []byte
	s := New()
	b := make([]byte, 100)
	for i := range 40 {
		copy(b, sample(7*i%100))
		s.Write(b[:7*i%100])
		all = append(all, b[:7*i%100]...)
		for j := range b {
			b[j] = 99
		}
		checkSum(t, "memory that is used again", s.Sum(), all)
	}
}

// 2.1: two states share nothing, and no answer is changed by what comes later.
func TestStatesAreApart(t *testing.T) {
	b := sample(500)
	s, o := New(), New()
	s.Write(b[:100])
	first := s.Sum()
	for i := range 10 {
		o.Write(b[i*20 : i*20+20])
		s.Write(b[100+i*20 : 120+i*20])
		Of(b[i:])
		New().Write(b)
	}
	checkSum(t, "an earlier answer", first, b[:100])
	checkSum(t, "one state", s.Sum(), b[:300])
	checkSum(t, "another one", o.Sum(), b[:200])
	checkSum(t, "a new one", New().Sum(), nil)
}
