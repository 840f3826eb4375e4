package gate_test

import (
	"bytes"
	"strings"
	"testing"
	"unsafe"

	"redoubt/api"
	"redoubt/gate"
)

// room is memory in which a packet lies, with more bytes behind its data.
type room struct {
	data  []byte
	texts []byte
	p     api.Pack
}

// laid is a packet that lies in a room.
func laid(p api.Pack) *room {
	r := &room{data: append(bytes.Clone(p.Data), some(50, 9)...), texts: []byte(p.Src + p.Dst + "z"), p: p}
	r.p.Src, r.p.Dst = unsafe.String(&r.texts[0], len(p.Src)), unsafe.String(&r.texts[len(p.Src)], len(p.Dst))
	r.p.Data = r.data[:len(p.Data)]
	return r
}

// kept wants a room to be as it was when a packet was laid into it.
func (r *room) kept(t *testing.T, p api.Pack) {
	t.Helper()
	want := laid(p)
	if !bytes.Equal(r.data, want.data) || !bytes.Equal(r.texts, want.texts) || !equal(r.p, p) {
		t.Errorf("R2: what was passed is altered: %s", told(p))
	}
}

// spoil alters all of a room.
func (r *room) spoil() {
	for _, b := range [][]byte{r.data, r.texts} {
		for i := range b {
			b[i] ^= 0xff
		}
	}
}

// lies is all the memory that a packet lies in.
func lies(p api.Pack) [][]byte {
	return [][]byte{
		p.Data[:cap(p.Data)],
		unsafe.Slice(unsafe.StringData(p.Src), len(p.Src)),
		unsafe.Slice(unsafe.StringData(p.Dst), len(p.Dst)),
	}
}

// spoilAnswer alters all that a packet lies in.
func spoilAnswer(p api.Pack) {
	for _, b := range lies(p) {
		for i := range b {
			b[i] ^= 0xff
		}
	}
}

// copied is a packet in memory of its own.
func copied(p api.Pack) api.Pack { return laid(p).p }

// places are bytes in which something lies.
type places map[*byte]bool

// mark takes bytes in, and tells whether anything lay there.
func (m places) mark(list ...[]byte) bool {
	again := false
	for _, b := range list {
		for i := range b {
			again = again || m[&b[i]]
			m[&b[i]] = true
		}
	}
	return again
}

// policies are rules under which packets pass by, are protected, or go by tunnels.
func policies() []api.Rule {
	return []api.Rule{rule(1, api.Bypass), rule(1, api.Protect), tunnel(1, self, peer), tunnel(1, self6, peer6)}
}

// TestAnswersAreNew holds where all answers lie against each other and against
// what was passed.
func TestAnswersAreNew(t *testing.T) {
	where := places{}
	var rooms []*room // none is let go, so that no memory is used twice
	var answers []api.Pack
	put := func(p api.Pack) api.Pack {
		r := laid(p)
		rooms = append(rooms, r)
		where.mark(r.data, r.texts)
		return r.p
	}
	for _, r := range policies() {
		g, h := fresh(t, r), fresh(t, turned(r))
		g.live(0, life(256, true))
		h.live(0, life(256, false))
		for range 3 {
			for _, p := range []api.Pack{packet(one, two, "abcdef"), packet(one6, two6, "abcdef")} {
				p.Id = 0
				q := g.sends(0, put(p), 1500)
				if where.mark(lies(q)...) {
					t.Errorf("R2: what goes out shares memory: %s", told(q))
				}
				in, e := h.in(0, put(q))
				is(t, "P22.4: In", e, api.OK)
				if where.mark(lies(in)...) {
					t.Errorf("R2: what comes in shares memory: %s", told(in))
				}
				answers = append(answers, q, in)
			}
		}
	}
	if len(rooms) != 48 || len(answers) != 48 {
		t.Errorf("%d rooms and %d answers", len(rooms), len(answers))
	}
}

// TestWireIsNew holds where encodings and their packets lie against each other.
func TestWireIsNew(t *testing.T) {
	for _, p := range []api.Pack{packet(one, two, "abcdef"), packet(one6, two6, "abcdef")} {
		p.Id = 0
		where, r := places{}, laid(p)
		where.mark(r.data, r.texts)
		b, _ := gate.Wire(r.p)
		r.kept(t, p)
		if where.mark(b[:cap(b)]) {
			t.Errorf("R2: Wire(%s) shares memory", told(p))
		}
		passed := append(bytes.Clone(b), some(50, 3)...)
		where.mark(passed)
		before := bytes.Clone(passed)
		q, _ := gate.Unwire(passed[:len(b)])
		if !bytes.Equal(passed, before) {
			t.Errorf("R2: Unwire alters what was passed")
		}
		if where.mark(lies(q)...) {
			t.Errorf("R2: Unwire shares memory: %s", told(q))
		}
		for i := range passed {
			passed[i] ^= 0xff
		}
		r.spoil()
		if !equal(q, p) {
			t.Errorf("R2: what Unwire returned is altered: %s", told(q))
		}
	}
}

// TestArgumentsAreKept holds what was passed against what it was, whatever is
// answered.
func TestArgumentsAreKept(t *testing.T) {
	for _, r := range append(policies(), rule(1, api.Discard)) {
		g := fresh(t, r)
		g.live(0, life(256, true))
		g.live(0, life(256, false))
		d := &dice{5}
		for i := range 300 {
			p := drawnPacket(d)
			x := laid(p)
			q, _, _ := g.out(0, x.p, 1300)
			x.kept(t, p)
			x = laid(q)
			g.in(0, x.p)
			x.kept(t, q)
			q = sealed(t, d.text(one, peer, peer6), d.text(two, self, self6), life(256, false).Sa, uint64(1+i+d.under(60)), p.Data, d.of(4, 41, 99))
			x = laid(q)
			g.in(0, x.p)
			x.kept(t, q)
		}
	}
}

// TestAnswersStay has a gate be used further, and all that was passed be altered:
// what was handed out stays as it was.
func TestAnswersStay(t *testing.T) {
	for _, r := range policies() {
		g, h := fresh(t, r), fresh(t, turned(r))
		g.live(0, life(256, true))
		h.live(0, life(256, false))
		var was, now []api.Pack
		for i := range 40 {
			p := packet(one, two, string(some(10+i, uint64(i))))
			if i%2 == 1 {
				p = packet(one6, two6, string(p.Data))
			}
			x := laid(p)
			q := g.sends(0, x.p, 1500)
			was, now = append(was, copied(q)), append(now, q)
			x.spoil()
			x = laid(q)
			in, e := h.in(0, x.p)
			is(t, "P22.4: In", e, api.OK)
			was, now = append(was, copied(in)), append(now, in)
			x.spoil()
		}
		g.remove(0)
		g.add(0, rule(9, api.Discard))
		g.die(256, true)
		for i := range was {
			if !equal(was[i], now[i]) {
				t.Errorf("R2: what was handed out is altered: %s, was %s", told(now[i]), told(was[i]))
			}
		}
	}
}

// TestGateStays alters all that was handed out and all that was passed: the gate
// answers as before.
func TestGateStays(t *testing.T) {
	for _, r := range policies() {
		g, h := fresh(t, r), fresh(t, turned(r))
		g.live(0, life(256, true))
		h.live(0, life(256, false))
		for i := range 40 {
			x := laid(packet(one, two, strings.Repeat("x", i)))
			q, _, e := g.g.Out(0, x.p, 1500)
			want, _, f := g.m.out(0, x.p, 1500)
			if !equal(q, want) || e != f {
				t.Fatalf("R2: Out = %s, %d, want %s, %d", told(q), e, told(want), f)
			}
			x.spoil()
			x = laid(q)
			spoilAnswer(q)
			q, e = h.g.In(0, x.p)
			want, f = h.m.in(0, copied(x.p))
			if !equal(q, want) || e != f || e != api.OK {
				t.Fatalf("R2: In = %s, %d, want %s, %d", told(q), e, told(want), f)
			}
			x.spoil()
			spoilAnswer(q)
		}
	}
}
