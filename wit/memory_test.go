package wit

import (
	"bytes"
	"slices"
	"testing"

	"alibi/api"
	"alibi/prog"
)

// spoil fills all that a list of picks has, spare room included.
func spoil(l []api.Pick) {
	l = l[:cap(l)]
	for i := range l {
		l[i] = api.Pick{Who: 99, Way: true}
	}
}

// What is handed in isn't changed, spare room included.
func TestNothingHandedInIsChanged(t *testing.T) {
	p, kept := two(t), two(t)
	for f, l := range p.Funcs {
		p.Funcs[f] = append(slices.Clone(l), api.Node{Kind: 99})[:len(l)]
	}
	spare := []api.Node{{Kind: 98}}
	p.Funcs = append(p.Funcs, spare)[:len(p.Funcs)]
	room := append(picks(0, 0), api.Pick{Who: 99}, api.Pick{Who: 98})
	had := slices.Clone(room)
	for _, size := range []int{0, 1, 2, 4} {
		w := api.Witness{Picks: room[:size], B: 1, Global: 1}
		Check(w)
		Holds(p, w)
		b, _ := Write(w)
		b = b[:cap(b)]
		for i := range b {
			b[i] = 77
		}
		v, _ := Of(p, room[:size])
		spoil(v.Picks)
	}
	if !slices.Equal(room, had) {
		t.Errorf("%v became %v", had, room)
	}
	for f, l := range p.Funcs {
		if l[:len(l)+1][len(l)] != (api.Node{Kind: 99}) {
			t.Errorf("room of the function %d was changed", f)
		}
	}
	if last := p.Funcs[:len(p.Funcs)+1][len(p.Funcs)]; !slices.Equal(last, spare) || !prog.Same(p, kept) {
		t.Errorf("%v became %v", kept, p)
	}
}

// 13.1: what is written is new memory.
func TestWriteIsNewMemory(t *testing.T) {
	w := api.Witness{Picks: picks(3, 12), A: 2, B: 5, Global: 9}
	first, _ := Write(w)
	for range 3 {
		b, e := Write(w)
		if e != api.OK || !bytes.Equal(b, writeByHand(w)) {
			t.Fatalf("Write = %x, %d", b, e)
		}
		b = b[:cap(b)]
		for i := range b {
			b[i] = 99
		}
		Write(api.Witness{Picks: picks(1, 1), A: 7, B: 0})
		Write(api.Witness{})
	}
	if !bytes.Equal(first, writeByHand(w)) {
		t.Errorf("two answers share memory: %x", first)
	}
	spoil(w.Picks)
	if string(first) != "alw1\x02\x03\x0c\x02\x05\x09" {
		t.Errorf("what was handed in is kept: %x", first)
	}
}

// 13.2: what is read is new memory; the bytes aren't changed, nor kept.
func TestReadIsNewMemory(t *testing.T) {
	const code = "alw1\x02\x03\x0c\x02\x05\x09"
	want := api.Witness{Picks: picks(3, 12), A: 2, B: 5, Global: 9}
	b := append([]byte(code), "spare"...)
	first, _ := Read(b[:len(code)])
	for range 3 {
		w, s := Read(b[:len(code)])
		if s != (api.Spot{}) || !alike(w, want) {
			t.Fatalf("Read = %v, %v", w, s)
		}
		spoil(w.Picks)
		Read([]byte("alw1\x02\x01\x01\x01\x00\x00"))
		Read(b)
	}
	if string(b) != code+"spare" {
		t.Errorf("the bytes became %x", b)
	}
	for i := range b {
		b[i] = 1
	}
	if !alike(first, want) {
		t.Errorf("%v became %v", want, first)
	}
}

// 13.3: the witness of a script is new memory; the script isn't kept.
func TestOfIsNewMemory(t *testing.T) {
	p, l := two(t), append(make([]api.Pick, 0, 9), picks(0, 0)...)
	want := api.Witness{Picks: picks(0, 0), B: 1, Global: 1}
	first, _ := Of(p, l)
	for range 3 {
		w, ok := Of(p, l)
		if !ok || !alike(w, want) {
			t.Fatalf("Of = %v, %v", w, ok)
		}
		spoil(w.Picks)
		Of(p, picks(8, 0))
		Of(p, nil)
		Of(api.Program{}, l)
	}
	if !slices.Equal(l, picks(0, 0)) || l[:3][2] != (api.Pick{}) {
		t.Errorf("the script became %v", l[:9])
	}
	spoil(l)
	if !alike(first, want) {
		t.Errorf("%v became %v", want, first)
	}
}

// What a call answers hangs on its arguments alone: calls that were refused leave nothing behind.
func TestNothingIsKept(t *testing.T) {
	p := two(t)
	w, _ := Of(p, picks(0, 0))
	for range 3 {
		Read([]byte("alw"))
		Check(api.Witness{})
		Holds(api.Program{}, w)
		Of(p, make([]api.Pick, 5000))
		if v, ok := Of(p, picks(0, 0)); !ok || !alike(v, w) {
			t.Errorf("Of = %v, %v", v, ok)
		}
		if holds, e := Holds(p, w); !holds || e != api.OK {
			t.Errorf("Holds = %v, %d", holds, e)
		}
		if b, e := Write(w); string(b) != "alw1\x02\x00\x00\x00\x01\x01" || e != api.OK {
			t.Errorf("Write = %x, %d", b, e)
		}
	}
}
