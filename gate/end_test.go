package gate_test

import (
	"math"
	"reflect"
	"testing"
	"unsafe"

	"redoubt/api"
	"redoubt/sad"
)

// walk goes through all that something holds, each thing once.
type walk struct {
	been map[unsafe.Pointer]bool
	meet func(n *uint64)
}

// parts calls meet with each integer of 64 bits in a value.
func (w walk) parts(v reflect.Value) {
	switch v.Kind() {
	case reflect.Pointer:
		if !v.IsNil() && !w.been[v.UnsafePointer()] {
			w.been[v.UnsafePointer()] = true
			w.parts(v.Elem())
		}
	case reflect.Struct:
		for i := range v.NumField() {
			w.parts(v.Field(i))
		}
	case reflect.Slice, reflect.Array:
		for i := range v.Len() {
			w.parts(v.Index(i))
		}
	case reflect.Int, reflect.Int64, reflect.Uint, reflect.Uint64:
		if v.CanAddr() {
			w.meet((*uint64)(unsafe.Pointer(v.UnsafeAddr())))
		}
	}
}

// forward moves the last sequence number of the only association of a database to
// n: no test has the time to send as often. It takes for that number whatever
// rises by one with each Send.
func forward(t *testing.T, s *sad.Sad, spi int, n uint64) {
	t.Helper()
	before, found := map[*uint64]uint64{}, 0
	integers := func(meet func(n *uint64)) {
		walk{map[unsafe.Pointer]bool{}, meet}.parts(reflect.ValueOf(s))
	}
	integers(func(at *uint64) { before[at] = *at })
	for range 5 {
		_, _, e := s.Send(0, spi, 0)
		is(t, "Send", e, api.OK)
	}
	integers(func(at *uint64) {
		if *at == before[at]+5 {
			*at = n
			found++
		}
	})
	if found == 0 {
		t.Skip("the database keeps its sequence numbers in a way that this test does not know")
	}
}

// TestLastNumbers sends until there are no numbers left.
func TestLastNumbers(t *testing.T) {
	for _, r := range []api.Rule{rule(1, api.Protect), tunnel(1, self, peer)} {
		for _, esn := range []bool{false, true} {
			g, l := fresh(t, r), life(256, true)
			l.Sa.Esn = esn
			last := uint64(math.MaxUint32)
			if esn {
				last = math.MaxUint64
			}
			g.live(0, l)
			forward(t, g.g.Sas(), 256, last-3)
			forward(t, g.m.sas, 256, last-3)
			p := packet(one, two, "abc")
			for seq := last - 2; seq != last+1; seq++ {
				q := g.sends(0, p, 1500)
				opened(t, q, l.Sa, seq)
				if r.Tunnel && q.Id != int(seq%65536) {
					t.Errorf("P22.3: the Id of number %d is %d", seq, q.Id)
				}
			}
			big := p
			big.Df = true
			for range 3 { // what the steps before tell is told first
				g.keeps(0, p, 1500, 0, api.ErrEnd)
				g.keeps(0, big, 40, 0, api.ErrBig)
				g.keeps(0, packet(one, two, string(make([]byte, 65000))), 1500, 0, api.ErrLong)
			}
		}
	}
}

// TestOverHighHalves sends and receives where the high half of the numbers rises.
func TestOverHighHalves(t *testing.T) {
	for _, high := range []uint64{1, 2, 1 << 20, 1<<32 - 1} {
		g, h := fresh(t, rule(1, api.Protect)), fresh(t, rule(1, api.Protect))
		l := life(256, true)
		l.Sa.Esn = true
		g.live(0, l)
		forward(t, g.g.Sas(), 256, high<<32-10)
		forward(t, g.m.sas, 256, high<<32-10)
		l.Out = false
		h.live(0, l)
		is(t, "Take", h.g.Sas().Take(0, 256, high<<32-40, 1), api.OK)
		is(t, "Take", h.m.sas.Take(0, 256, high<<32-40, 1), api.OK)
		for range 30 {
			p := packet(one, two, "abc")
			q := g.sends(0, p, 1500)
			h.gets(0, q, p)
			h.refuses(0, q, api.ErrReplay)
		}
	}
}
