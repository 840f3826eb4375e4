package gate_test

import (
	"bytes"
	"math"
	"strings"
	"testing"

	"redoubt/api"
	"redoubt/gate"
	"redoubt/ip4"
	"redoubt/ip6"
)

// wires holds Wire of a packet against what it must answer, and tells its error.
func wires(t *testing.T, p api.Pack) api.Errno {
	t.Helper()
	b, e := gate.Wire(p)
	want, f := wire(p)
	if !bytes.Equal(b, want) || e != f || e != api.OK && len(b) > 0 {
		t.Fatalf("P22.1: Wire(%s) = %.200x, %d, want %.200x, %d", told(p), b, e, want, f)
	}
	return e
}

// unwires holds Unwire of bytes against what it must answer, and tells its error.
func unwires(t *testing.T, b []byte) api.Errno {
	t.Helper()
	p, e := gate.Unwire(b)
	want, f := unwire(b)
	if !equal(p, want) || e != f {
		t.Fatalf("P22.1: Unwire(%.200x) = %s, %d, want %s, %d", b, told(p), e, told(want), f)
	}
	return e
}

// isWire wants Wire to tell an error.
func isWire(t *testing.T, p api.Pack, want api.Errno) {
	t.Helper()
	is(t, "P22.1: Wire of "+told(p), wires(t, p), want)
}

// isUnwire wants Unwire to tell an error.
func isUnwire(t *testing.T, b []byte, want api.Errno) {
	t.Helper()
	is(t, "P22.1: Unwire", unwires(t, b), want)
}

// encoded4 are the bytes of a packet of layer 3.
func encoded4(t *testing.T, p api.Ip4) []byte {
	t.Helper()
	b, e := ip4.Bytes(p)
	is(t, "Bytes", e, api.OK)
	return b
}

// encoded6 are the bytes of a packet of layer 4.
func encoded6(t *testing.T, p api.Ip6) []byte {
	t.Helper()
	b, e := ip6.Bytes(p)
	is(t, "Bytes", e, api.OK)
	return b
}

func TestWireOfKnown(t *testing.T) {
	for _, x := range []struct {
		p    api.Pack
		want string
	}{
		{api.Pack{Src: one, Dst: two, Proto: 17, Ttl: 64}, "\x45\x00\x00\x14\x00\x00\x00\x00\x40\x11\x66\xd7\x0a\x00\x00\x01\x0a\x00\x00\x02"},
		{api.Pack{Src: one, Dst: two, Proto: 17, Ttl: 64, Df: true}, "\x45\x00\x00\x14\x00\x00\x40\x00\x40\x11\x26\xd7\x0a\x00\x00\x01\x0a\x00\x00\x02"},
		{api.Pack{Src: one, Dst: two, Proto: 17, Ttl: 64, Id: 0x0102, Data: []byte("abc")}, "\x45\x00\x00\x17\x01\x02\x00\x00\x40\x11\x65\xd2\x0a\x00\x00\x01\x0a\x00\x00\x02abc"},
		{api.Pack{Src: one6, Dst: two6, Proto: 17, Ttl: 64, Id: 7, Df: true, Data: []byte("abc")}, "\x60\x00\x00\x00\x00\x03\x11\x40" + one6 + two6 + "abc"},
	} {
		if b, e := gate.Wire(x.p); string(b) != x.want || e != api.OK {
			t.Errorf("P22.1: Wire(%s) = %x, %d, want %x", told(x.p), b, e, x.want)
		}
	}
}

// TestWireAddresses asks with addresses of all lengths, alone and with other
// faults.
func TestWireAddresses(t *testing.T) {
	lengths := []int{32, 40, 64}
	for n := range 21 {
		lengths = append(lengths, n)
	}
	for _, a := range lengths {
		for _, b := range lengths {
			p := packet(strings.Repeat("a", a), strings.Repeat("b", b), "data")
			want := api.ErrArg
			if a == b && (a == 4 || a == 16) {
				want = api.OK
			}
			isWire(t, p, want)
			p.Ttl = 256
			isWire(t, p, api.ErrArg)
			p.Ttl, p.Data = 9, make([]byte, 65536)
			if want == api.OK {
				want = api.ErrLong
			}
			isWire(t, p, want)
		}
	}
}

// TestWireFields asks with numbers inside and outside of their ranges.
func TestWireFields(t *testing.T) {
	wrong := []int{-1, -2, -255, 256, 257, 65535, 65536, 1 << 32, 1<<32 + 6, math.MaxInt, math.MinInt}
	for _, long := range []int{0, 3, 65536} {
		for _, end := range [][2]string{{one, two}, {one6, two6}} {
			good := api.OK
			if long > 65535 {
				good = api.ErrLong
			}
			p := packet(end[0], end[1], strings.Repeat("x", long))
			for _, n := range wrong {
				q := p
				q.Ttl = n
				isWire(t, q, api.ErrArg)
				q = p
				q.Proto = n
				isWire(t, q, api.ErrArg)
			}
			for n := range 256 {
				if long > 3 && n%16 != 0 {
					continue
				}
				q := p
				q.Ttl = n
				isWire(t, q, good)
				q = p
				q.Proto = n
				if len(q.Src) == 16 && (n == 0 || n == 43 || n == 44 || n == 60) {
					isWire(t, q, api.ErrArg)
				} else {
					isWire(t, q, good)
				}
			}
		}
	}
}

// TestWireId asks with an Id and a Df, which IPv6 has none of.
func TestWireId(t *testing.T) {
	for _, df := range []bool{false, true} {
		for _, n := range []int{0, 1, 255, 256, 65534, 65535, -1, 65536, 1 << 32, math.MinInt, math.MaxInt} {
			p := packet(one, two, "abc")
			p.Id, p.Df = n, df
			want := api.OK
			if n < 0 || n > 65535 {
				want = api.ErrArg
			}
			isWire(t, p, want)
			p.Src, p.Dst = one6, two6
			isWire(t, p, api.OK)
			b, _ := gate.Wire(p)
			c, _ := gate.Wire(packet(one6, two6, "abc"))
			if !bytes.Equal(b, c) {
				t.Errorf("P22.1: Wire(%s) = %x, want %x", told(p), b, c)
			}
		}
	}
}

// TestWireLength asks with as much data as there may be, and more.
func TestWireLength(t *testing.T) {
	for _, x := range []struct {
		src, dst string
		most     int
	}{{one, two, 65515}, {one6, two6, 65535}} {
		for d := -3; d <= 25; d++ {
			want := api.OK
			if d > 0 {
				want = api.ErrLong
			}
			isWire(t, packet(x.src, x.dst, strings.Repeat("x", x.most+d)), want)
		}
	}
	isWire(t, packet(one, two, strings.Repeat("x", 200000)), api.ErrLong)
	isWire(t, packet(one6, two6, strings.Repeat("x", 200000)), api.ErrLong)
}

// TestUnwireVersions asks with every first byte, before nothing and before more.
func TestUnwireVersions(t *testing.T) {
	isUnwire(t, nil, api.ErrMore)
	isUnwire(t, []byte{}, api.ErrMore)
	for n := range 256 {
		want := api.ErrForm
		if n>>4 == 4 || n>>4 == 6 {
			want = api.ErrMore
		}
		isUnwire(t, []byte{byte(n)}, want)
		for _, size := range []int{1, 18, 19, 38, 39, 60, 70000} {
			unwires(t, append([]byte{byte(n)}, some(size, uint64(n))...))
			unwires(t, append([]byte{byte(n)}, make([]byte, size)...))
			if n>>4 != 4 && n>>4 != 6 {
				isUnwire(t, append([]byte{byte(n)}, some(size, uint64(n))...), api.ErrForm)
			}
		}
	}
}

// TestUnwireFragments asks with all that a fragment may have, alone and together.
func TestUnwireFragments(t *testing.T) {
	for _, off := range []int{0, 8, 16, 1480, 2040, 2048, 32768, 65520, 65528} {
		for _, mf := range []bool{false, true} {
			for _, df := range []bool{false, true} {
				for options := 0; options <= 40; options += 4 {
					p := api.Ip4{Src: one, Dst: two, Proto: 17, Ttl: 3, Id: 9, Off: off, Mf: mf, Df: df, Options: strings.Repeat("\x01", options), Data: []byte("abcdefgh")}
					want := api.OK
					if off != 0 || mf || options > 0 {
						want = api.ErrForm
					}
					b := encoded4(t, p)
					isUnwire(t, b, want)
					b[len(b)-9] ^= 1 // the last byte of the header: an error of layer 3 comes first
					isUnwire(t, b, api.ErrSum)
					isUnwire(t, b[:len(b)-1], api.ErrMore)
					isUnwire(t, append(b, 0), api.ErrForm)
				}
			}
		}
	}
}

// TestUnwireDrops has all values of the fields that are dropped.
func TestUnwireDrops(t *testing.T) {
	for n := range 256 {
		b := encoded4(t, api.Ip4{Tos: n, Src: one, Dst: two, Proto: 17, Ttl: 3, Id: 9, Df: true, Data: []byte("abc")})
		if p, e := gate.Unwire(b); !equal(p, api.Pack{Src: one, Dst: two, Proto: 17, Ttl: 3, Id: 9, Df: true, Data: []byte("abc")}) || e != api.OK {
			t.Errorf("P22.1: Unwire(%x) = %s, %d", b, told(p), e)
		}
		for _, label := range []int{0, 1, 255, 256, 65535, 65536, 1048575} {
			b := encoded6(t, api.Ip6{Class: n, Label: label, Src: one6, Dst: two6, Next: 17, Hop: 3, Data: []byte("abc")})
			if p, e := gate.Unwire(b); !equal(p, api.Pack{Src: one6, Dst: two6, Proto: 17, Ttl: 3, Data: []byte("abc")}) || e != api.OK {
				t.Errorf("P22.1: Unwire(%x) = %s, %d", b, told(p), e)
			}
		}
	}
}

// TestUnwireExts asks with headers that stand between.
func TestUnwireExts(t *testing.T) {
	for _, exts := range [][]api.Ext{
		{{Kind: 0, Data: "\x01\x04abcd"}}, {{Kind: 43, Data: "\x00\x00abcd"}}, {{Kind: 44, Data: "\x00\x00\x01abcd"}}, {{Kind: 44, Data: "\x00\x00\x00abcd"}},
		{{Kind: 60, Data: "\x01\x04abcd"}}, {{Kind: 0, Data: "\x01\x0cabcd01234567"}}, {{Kind: 0, Data: "\x01\x04abcd"}, {Kind: 44, Data: "\x00\x00\x01abcd"}},
	} {
		for _, next := range []int{6, 17, 58, 59, 255} {
			b := encoded6(t, api.Ip6{Src: one6, Dst: two6, Next: next, Hop: 3, Exts: exts, Data: []byte("abc")})
			isUnwire(t, b, api.ErrForm)
			isUnwire(t, b[:len(b)-1], api.ErrMore)
			isUnwire(t, append(b, 0), api.ErrForm)
		}
	}
	for next := range 256 { // the header that is named stands in the data, or does not
		b := encoded6(t, api.Ip6{Src: one6, Dst: two6, Next: 59, Hop: 3, Data: []byte("\x11\x00abcdef")})
		b[6] = byte(next)
		want := api.OK
		if next == 0 || next == 43 || next == 44 || next == 60 {
			want = api.ErrForm
		}
		isUnwire(t, b, want)
	}
}

// TestUnwireAltered asks with every byte of some encodings altered to every value,
// and with every beginning of them.
func TestUnwireAltered(t *testing.T) {
	for _, b := range [][]byte{
		encoded4(t, api.Ip4{Src: one, Dst: two, Proto: 17, Ttl: 3, Id: 9, Df: true, Data: []byte("abcdefgh")}),
		encoded4(t, api.Ip4{Src: one, Dst: two, Proto: 17, Ttl: 3, Id: 9, Options: "\x01\x01\x01\x00", Data: []byte("abc")}),
		encoded6(t, api.Ip6{Src: one6, Dst: two6, Next: 17, Hop: 3, Data: []byte("\x11\x00abcdef")}),
		encoded6(t, api.Ip6{Src: one6, Dst: two6, Next: 17, Hop: 3, Exts: []api.Ext{{Kind: 0, Data: "\x01\x04abcd"}}, Data: []byte("ab")}),
	} {
		for i := range b {
			unwires(t, b[:i])
			for x := range 256 {
				c := bytes.Clone(b)
				c[i] = byte(x)
				unwires(t, c)
				if c[0]>>4 == 4 && i != 10 && i != 11 { // with a sum that fits
					c[10], c[11] = 0, 0
					sum := 0
					for j := 0; j < min(int(c[0]&15)*4, len(c)-1); j += 2 {
						sum += int(c[j])<<8 | int(c[j+1])
					}
					sum = sum&65535 + sum>>16
					sum = sum&65535 + sum>>16
					c[10], c[11] = byte(^sum>>8), byte(^sum)
					unwires(t, c)
				}
			}
		}
	}
}

// TestWireAndBack encodes packets and decodes them again.
func TestWireAndBack(t *testing.T) {
	d := &dice{1}
	for range 3000 {
		p := api.Pack{
			Src: string(some(4, d.seed)), Dst: string(some(4, d.seed+1)), Proto: d.under(256), Ttl: d.under(256),
			Id: d.under(65536), Df: d.once(2), Data: some(d.of(0, 1, d.under(50), d.under(1500)), d.seed),
		}
		if d.once(2) {
			p.Src, p.Dst, p.Id, p.Df = string(some(16, d.seed)), string(some(16, d.seed+1)), 0, false
		}
		if wires(t, p) != api.OK {
			continue
		}
		b, _ := gate.Wire(p)
		if q, e := gate.Unwire(b); !equal(p, q) || e != api.OK {
			t.Fatalf("P22.1: Unwire(Wire(%s)) = %s, %d", told(p), told(q), e)
		}
	}
	for _, p := range []api.Pack{packet(one, two, strings.Repeat("x", 65515)), packet(one6, two6, strings.Repeat("x", 65535))} {
		if len(p.Src) == 16 {
			p.Id = 0
		}
		b, _ := gate.Wire(p)
		if q, e := gate.Unwire(b); !equal(p, q) || e != api.OK {
			t.Fatalf("P22.1: Unwire(Wire(%s)) = %s, %d", told(p), told(q), e)
		}
	}
}
