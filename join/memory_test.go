package join_test

import (
	"bytes"
	"slices"
	"testing"
	"unsafe"

	"redoubt/api"
	"redoubt/join"
)

// room is memory in which what is passed lies, with more bytes behind the data.
type room struct {
	data  []byte
	texts []byte
	p     api.Ip4
}

// laid is a fragment that lies in a room.
func laid(p api.Ip4) *room {
	r := &room{data: append(bytes.Clone(p.Data), some(50, 9)...), texts: []byte(p.Src + p.Dst + p.Options + "z")}
	r.p = p
	r.p.Src, r.p.Dst = unsafe.String(&r.texts[0], 4), unsafe.String(&r.texts[4], 4)
	r.p.Options = unsafe.String(&r.texts[8], len(p.Options))
	r.p.Data = r.data[:len(p.Data)]
	return r
}

// spoil alters all of a room.
func (r *room) spoil() {
	for _, b := range [][]byte{r.data, r.texts} {
		for i := range b {
			b[i] ^= 0xff
		}
	}
}

// spoilAll alters all that was returned, the spare room behind it too.
func spoilAll(list ...api.Ip4) {
	for _, p := range list {
		for _, s := range []string{p.Src, p.Dst, p.Options} {
			for i := range s {
				unsafe.Slice(unsafe.StringData(s), len(s))[i] ^= 0xff
			}
		}
		for i := range p.Data[:cap(p.Data)] {
			p.Data[:cap(p.Data)][i] ^= 0xff
		}
	}
}

// copied is a packet in memory of its own, to be spoilt.
func copied(p api.Ip4) api.Ip4 { return laid(p).p }

// lives are fragments of one packet, which they make with those after them, are
// dropped, or come again, in turn.
func lives() []api.Ip4 {
	first := headed(piece(0, 16, true), "\x94\x04ab")
	return []api.Ip4{
		piece(16, 8, true), first, piece(16, 8, true), first, piece(24, 5, false), // whole
		headed(whole(20), "\x94\x04ab"), first, piece(8, 16, true), // complete, kept, dropped
		piece(24, 5, false), of(1, first), first, whole(0), piece(16, 8, true), // whole
		first, of(2, piece(16, 8, true)), piece(32, 0, true), piece(65512, 4, false), // kept, refused
	}
}

// TestArgumentIsKept holds what was passed against what it was.
func TestArgumentIsKept(t *testing.T) {
	j := join.New()
	var rooms []*room
	for _, p := range lives() {
		rooms = append(rooms, laid(p))
		j.Put(0, rooms[len(rooms)-1].p)
	}
	spoilAll(j.Tick(60)...)
	for i, p := range lives() {
		want := laid(p)
		if !bytes.Equal(rooms[i].data, want.data) || !bytes.Equal(rooms[i].texts, want.texts) {
			t.Errorf("P20.1: what was passed is altered: %s", told(p))
		}
	}
}

// TestKeptIsOwn alters all that was passed, and all that was returned, after each
// call: nothing in the joiner goes with it.
func TestKeptIsOwn(t *testing.T) {
	x := two(t)
	for i, p := range slices.Concat(lives(), lives()) {
		r := laid(p)
		q, ok, e := x.j.Put(0, r.p)
		r.spoil()
		want, done, f := x.m.put(0, p)
		if !equal(q, want) || ok != done || e != f {
			t.Fatalf("P20.1: call %d: Put of %s = %s, %t, %d, not %s, %t, %d", i, told(p), told(q), ok, e, told(want), done, f)
		}
		x.waiting(len(x.m.packets))
		spoilAll(q)
	}
	list := x.j.Tick(60)
	if want := x.m.tick(60); !slices.EqualFunc(list, want, equal) {
		t.Fatalf("P20.3: Tick = %v, not %v", ids(list), ids(want))
	}
	spoilAll(list...)
	for _, p := range lives() {
		x.put(100, p)
	}
	x.tick(160)
}

// TestAnswerIsNew holds where all that is returned lies against each other and
// against what was passed.
func TestAnswerIsNew(t *testing.T) {
	j, lies := join.New(), map[*byte]bool{}
	mark := func(b []byte) bool {
		again := false
		for i := range b {
			again = again || lies[&b[i]]
			lies[&b[i]] = true
		}
		return again
	}
	markAll := func(list ...api.Ip4) {
		t.Helper()
		for _, p := range list {
			for _, s := range []string{p.Src, p.Dst, p.Options} {
				if mark(unsafe.Slice(unsafe.StringData(s), len(s))) {
					t.Errorf("P20.2: an answer shares a string: %s", told(p))
				}
			}
			if mark(p.Data[:cap(p.Data)]) {
				t.Errorf("P20.2: an answer shares its data: %s", told(p))
			}
		}
	}
	var rooms []*room // none is let go, so that no memory is used twice
	for now := range 5 {
		for _, p := range lives() {
			r := laid(p)
			rooms = append(rooms, r)
			mark(r.data)
			mark(r.texts)
			q, _, _ := j.Put(now*100, r.p)
			markAll(q)
		}
		markAll(j.Tick(now*100 + 60)...)
	}
	if len(rooms) != 5*len(lives()) {
		t.Error("not all of the rooms are there")
	}
}

// TestMixed alters an answer while others of the same packet are kept.
func TestMixed(t *testing.T) {
	b := fresh(t)
	b.keeps(1, piece(8, 8, true))
	q, _, _ := b.j.Put(0, copied(whole(16)))
	spoilAll(q)
	b.keeps(1, piece(0, 8, true))
	q, ok, _ := b.j.Put(0, copied(piece(16, 3, false)))
	if !ok || !equal(q, whole(19)) {
		t.Fatalf("P20.2: %s, %t", told(q), ok)
	}
	spoilAll(q)
	b.waiting(0)
	b.keeps(1, piece(0, 8, true), piece(8, 8, true))
	b.makes(0, piece(16, 3, false), whole(19))
}
