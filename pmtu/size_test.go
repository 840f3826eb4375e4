package pmtu_test

import (
	"math"
	"testing"

	"redoubt/api"
	"redoubt/esp"
	"redoubt/ip4"
	"redoubt/ip6"
	"redoubt/pmtu"
)

// modes are all choices of wide and tunnel.
var modes = []struct{ wide, tunnel bool }{{false, false}, {false, true}, {true, false}, {true, true}}

// head is the size of a header.
func head(wide bool) int {
	if wide {
		return 40
	}
	return 20
}

// outer is what Outer must answer, by the layout of ESP: spi, sequence number, iv,
// data, padding to a multiple of 4, its length, what comes next, tag.
func outer(n int, wide bool) int {
	if n < 0 {
		return 0
	}
	return head(wide) + 4 + 4 + 8 + (n+2+3)/4*4 + 16
}

// inner is what Inner must answer, sought from above.
func inner(mtu int, wide bool, tunnel bool) int {
	for n := mtu; n >= 0; n-- {
		if outer(n, wide) <= mtu {
			if tunnel {
				return n
			}
			return n + head(wide)
		}
	}
	return 0
}

func TestExampleSizes(t *testing.T) {
	if n := pmtu.Outer(0, false, true); n != 56 {
		t.Errorf("P21.2: Outer(0, tunnel) = %d", n)
	}
	if n := pmtu.Inner(1500, false, true); n != 1446 {
		t.Errorf("P21.2: Inner(1500, tunnel) = %d", n)
	}
	if n := pmtu.Inner(1500, false, false); n != 1466 {
		t.Errorf("P21.2: Inner(1500, no tunnel) = %d", n)
	}
}

// TestOuter asks for all sizes up to some, and for great ones.
func TestOuter(t *testing.T) {
	sizes := []int{-1, -2, -3, -20, -40, -65535, -2147483648, math.MinInt, math.MinInt + 1}
	for n := range 3000 {
		sizes = append(sizes, n)
	}
	for d := range 20 {
		sizes = append(sizes, 65535-10+d, 1000000+d, 2147483647-100+d)
	}
	for _, n := range sizes {
		for _, m := range modes {
			if got, want := pmtu.Outer(n, m.wide, m.tunnel), outer(n, m.wide); got != want {
				t.Errorf("P21.2: Outer(%d, %v, %v) = %d, want %d", n, m.wide, m.tunnel, got, want)
			}
		}
	}
}

// TestInner asks for all MTUs up to some, and for great ones.
func TestInner(t *testing.T) {
	mtus := []int{-1, -2, -56, -65535, -2147483648, math.MinInt, math.MinInt + 1}
	for n := range 3000 {
		mtus = append(mtus, n)
	}
	for d := range 20 {
		mtus = append(mtus, 65535-10+d, 1000000+d, 2147483647-d)
	}
	for _, mtu := range mtus {
		for _, m := range modes {
			if got, want := pmtu.Inner(mtu, m.wide, m.tunnel), inner(mtu, m.wide, m.tunnel); got != want {
				t.Errorf("P21.2: Inner(%d, %v, %v) = %d, want %d", mtu, m.wide, m.tunnel, got, want)
			}
		}
	}
}

// TestLeast asks for the least MTU that bears anything, and the one below it.
func TestLeast(t *testing.T) {
	for _, x := range []struct {
		mtu          int
		wide, tunnel bool
		want         int
	}{
		{55, false, true, 0}, {56, false, true, 2}, {59, false, true, 2}, {60, false, true, 6},
		{55, false, false, 0}, {56, false, false, 22}, {59, false, false, 22}, {60, false, false, 26},
		{75, true, true, 0}, {76, true, true, 2}, {79, true, true, 2}, {80, true, true, 6},
		{75, true, false, 0}, {76, true, false, 42}, {79, true, false, 42}, {80, true, false, 46},
	} {
		if got := pmtu.Inner(x.mtu, x.wide, x.tunnel); got != x.want {
			t.Errorf("P21.2: Inner(%d, %v, %v) = %d, want %d", x.mtu, x.wide, x.tunnel, got, x.want)
		}
	}
}

// TestGreatSizesEnd has the greatest ints end, whatever comes out.
func TestGreatSizesEnd(t *testing.T) {
	for d := range 100 {
		for _, m := range modes {
			pmtu.Outer(math.MaxInt-d, m.wide, m.tunnel)
			pmtu.Inner(math.MaxInt-d, m.wide, m.tunnel)
		}
	}
}

// TestGreatestFits has what Inner answers fit, and one byte more not.
func TestGreatestFits(t *testing.T) {
	for mtu := -5; mtu < 70000; mtu++ {
		for _, m := range modes {
			n := pmtu.Inner(mtu, m.wide, m.tunnel)
			if n == 0 {
				if pmtu.Outer(0, m.wide, m.tunnel) <= mtu {
					t.Fatalf("P21.3: 0 bytes fit into %d", mtu)
				}
				continue
			}
			if !m.tunnel {
				n -= head(m.wide)
			}
			if pmtu.Outer(n, m.wide, m.tunnel) > mtu || pmtu.Outer(n+1, m.wide, m.tunnel) <= mtu {
				t.Fatalf("P21.3: %d bytes are not the most that fit into %d (%v, %v)", n, mtu, m.wide, m.tunnel)
			}
		}
	}
}

// protected is the size of the packet that protects n bytes.
func protected(n int, wide bool) (int, api.Errno) {
	sa := api.Sa{Spi: 300, Key: "0123456789abcdef", Salt: "salt", Mac: "0123456789abcdef0123456789abcdef", Window: 64}
	b, e := esp.Seal(sa, 1, make([]byte, n), api.ProtoTcp)
	if e != api.OK {
		return 0, e
	}
	var out []byte
	if wide {
		out, e = ip6.Bytes(api.Ip6{Hop: 1, Src: broad, Dst: broad, Next: api.ProtoEsp, Data: b})
	} else {
		out, e = ip4.Bytes(api.Ip4{Ttl: 1, Src: one, Dst: two, Proto: api.ProtoEsp, Data: b})
	}
	return len(out), e
}

// TestSealedSizes holds the sizes against those of packets that were made.
func TestSealedSizes(t *testing.T) {
	for _, n := range []int{0, 1, 2, 3, 4, 5, 6, 7, 100, 1406, 1407, 1426, 1427, 1446, 1447, 1448} {
		for _, m := range modes {
			want, e := protected(n, m.wide)
			if got := pmtu.Outer(n, m.wide, m.tunnel); got != want || e != api.OK {
				t.Errorf("P21.2: Outer(%d, %v, %v) = %d, want %d (%d)", n, m.wide, m.tunnel, got, want, e)
			}
		}
	}
}
