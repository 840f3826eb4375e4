package pmtu_test

import (
	"math"
	"strings"
	"testing"

	"redoubt/api"
	"redoubt/pmtu"
)

const (
	one   = "\x0a\x00\x00\x01"
	two   = "\x0a\x00\x00\x02"
	broad = "\x20\x01\x0d\xb8\x00\x00\x00\x00\x00\x00\x00\x00\x00\x00\x00\x01"
)

// cache is a cache whose answers are held against what is wanted.
type cache struct {
	t *testing.T
	c *pmtu.Cache
}

// fresh is an empty cache.
func fresh(t *testing.T) cache { return cache{t, pmtu.New()} }

// tell wants an answer of Tell.
func (c cache) tell(now int, dst string, mtu int, want int, wantE api.Errno) {
	c.t.Helper()
	if n, e := c.c.Tell(now, dst, mtu); n != want || e != wantE {
		c.t.Errorf("P21.1: Tell(%d, %x, %d) = %d, %d, want %d, %d", now, dst, mtu, n, e, want, wantE)
	}
}

// get wants an answer of Get.
func (c cache) get(now int, dst string, link int, want int, wantE api.Errno) {
	c.t.Helper()
	if n, e := c.c.Get(now, dst, link); n != want || e != wantE {
		c.t.Errorf("P21.1: Get(%d, %x, %d) = %d, %d, want %d, %d", now, dst, link, n, e, want, wantE)
	}
}

// count wants an answer of Count.
func (c cache) count(want int) {
	c.t.Helper()
	if n := c.c.Count(); n != want {
		c.t.Errorf("P21.1: Count() = %d, want %d", n, want)
	}
}

// path is the address of a path, 4 bytes for even numbers and 16 for odd ones.
func path(i int) string {
	if i%2 == 0 {
		return string([]byte{10, 1, byte(i >> 8), byte(i)})
	}
	return "\xfd" + strings.Repeat("\x00", 13) + string([]byte{byte(i >> 8), byte(i)})
}

func TestExample(t *testing.T) {
	c := fresh(t)
	c.tell(0, one, 1400, 1400, api.OK)
	c.get(1, one, 1500, 1400, api.OK)
	c.tell(1, one, 100, 576, api.OK)
	c.get(601, one, 1500, 1500, api.OK)
}

func TestNilCache(t *testing.T) {
	var none *pmtu.Cache
	c := cache{t, none}
	for _, dst := range []string{one, broad, "", "abc"} {
		for _, n := range []int{0, 1500, -1, math.MinInt, math.MaxInt} {
			c.tell(n, dst, n, 0, api.ErrNil)
			c.get(n, dst, n, 0, api.ErrNil)
		}
	}
	c.count(0)
}

// TestAddresses asks with what is an address by its length, and what is not.
func TestAddresses(t *testing.T) {
	for n := range 40 {
		c := fresh(t)
		dst := strings.Repeat("\x0a", n)
		c.count(0)
		if n == 4 || n == 16 {
			c.get(0, dst, 1500, 1500, api.OK)
			c.tell(0, dst, 1400, 1400, api.OK)
			c.get(0, dst, 1500, 1400, api.OK)
			c.count(1)
			continue
		}
		c.get(0, dst, 1500, 0, api.ErrArg)
		c.tell(0, dst, 1400, 0, api.ErrArg)
		c.get(0, dst, 1500, 0, api.ErrArg)
		c.count(0)
	}
}

// TestMinimum tells what lies about the minimum for an address.
func TestMinimum(t *testing.T) {
	least := []int{math.MinInt, -2000000000, -576, -1, 0, 1, 20}
	for _, x := range []struct {
		dst  string
		low  []int
		high []int
		want int
	}{
		{one, []int{68, 575, 576}, []int{577, 578, 1279, 1280, 1281, 65535, 65536, 2147483647}, 576},
		{broad, []int{575, 576, 577, 1279, 1280}, []int{1281, 1282, 65535, 65536, 2147483647}, 1280},
	} {
		for _, mtu := range append(x.low, least...) {
			c := fresh(t)
			c.tell(5, x.dst, mtu, x.want, api.OK)
			c.get(5, x.dst, 9000, min(9000, x.want), api.OK)
			c.tell(6, x.dst, 9000, x.want, api.OK)
		}
		for _, mtu := range x.high {
			c := fresh(t)
			c.tell(5, x.dst, mtu, mtu, api.OK)
			c.get(5, x.dst, 2147483647, mtu, api.OK)
			c.tell(6, x.dst, 0, x.want, api.OK)
			c.get(6, x.dst, 2147483647, x.want, api.OK)
		}
	}
}

// TestWhileFresh tells another MTU while the entry is fresh.
func TestWhileFresh(t *testing.T) {
	for _, now := range []int{100, 101, 699, 99, 0, -1, -500, -2000000000, math.MinInt} {
		for _, x := range []struct{ mtu, want int }{
			{1400, 1400}, {1401, 1400}, {65535, 1400}, {1399, 1399}, {577, 577}, {576, 576}, {575, 576}, {-1, 576},
		} {
			c := fresh(t)
			c.tell(100, one, 1400, 1400, api.OK)
			c.tell(now, one, x.mtu, x.want, api.OK)
			c.get(now, one, 1500, x.want, api.OK)
			c.count(1)
			since := 100 // what changes nothing leaves the time too
			if x.want < 1400 {
				since = now
			}
			if since > math.MinInt {
				c.get(since+599, one, 1500, x.want, api.OK)
			}
			c.get(since+600, one, 1500, 1500, api.OK)
		}
	}
}

// TestNoLongerFresh tells another MTU when the entry is no longer fresh.
func TestNoLongerFresh(t *testing.T) {
	for _, now := range []int{700, 701, 5000, 2000000000} {
		for _, x := range []struct{ mtu, want int }{
			{1400, 1400}, {1401, 1401}, {65535, 65535}, {1399, 1399}, {576, 576}, {575, 576}, {-1, 576},
		} {
			c := fresh(t)
			c.tell(100, one, 1400, 1400, api.OK)
			c.get(now, one, 100000, 100000, api.OK)
			c.count(1)
			c.tell(now, one, x.mtu, x.want, api.OK)
			c.get(now+599, one, 100000, x.want, api.OK)
			c.get(now+600, one, 100000, 100000, api.OK)
			c.get(now, one, 100000, x.want, api.OK)
			c.count(1)
		}
	}
}

// TestTimes asks at times around the end of an entry, wherever it begins.
func TestTimes(t *testing.T) {
	for _, at := range []int{math.MinInt, math.MinInt + 1, math.MinInt + 599, math.MinInt + 600, -2000000000, -601, -600, -1, 0, 1, 600, 1999999399} {
		c := fresh(t)
		c.tell(at, one, 1000, 1000, api.OK)
		for _, x := range []struct{ behind, want int }{{0, 1000}, {1, 1000}, {598, 1000}, {599, 1000}, {600, 1500}, {601, 1500}} {
			c.get(at+x.behind, one, 1500, x.want, api.OK)
		}
		for _, now := range []int{math.MinInt, math.MinInt + 599, math.MinInt + 600, math.MinInt + 601, -2000000000, -1000, 0, 2000000000} {
			want := 1500
			if now < at || uint64(now)-uint64(at) < 600 {
				want = 1000
			}
			c.get(now, one, 1500, want, api.OK)
		}
		c.count(1)
	}
}

// TestForgedTimes tells that a time before the record leaves the entry fresh.
func TestForgedTimes(t *testing.T) {
	c := fresh(t)
	c.tell(2000000000, one, 1000, 1000, api.OK)
	for _, now := range []int{1999999999, 1999999400, 1000, 0, -1, -2000000000, math.MinInt} {
		c.get(now, one, 1500, 1000, api.OK)
		c.tell(now, one, 1200, 1000, api.OK)
	}
	c.tell(0, one, 900, 900, api.OK) // the earlier time is the one that counts now
	c.get(599, one, 1500, 900, api.OK)
	c.get(600, one, 1500, 1500, api.OK)
	c.tell(600, one, 1200, 1200, api.OK)
}

// TestGet asks with links of all sizes.
func TestGet(t *testing.T) {
	c := fresh(t)
	c.tell(0, one, 1400, 1400, api.OK)
	c.tell(0, broad, 1300, 1300, api.OK)
	for _, link := range []int{math.MinInt, -2000000000, -1, 0, 1, 576, 1280, 1299, 1300, 1301, 1399, 1400, 1401, 65535, 2147483647} {
		c.get(599, one, link, min(link, 1400), api.OK)
		c.get(599, broad, link, min(link, 1300), api.OK)
		c.get(600, one, link, link, api.OK)
		c.get(600, broad, link, link, api.OK)
		c.get(0, two, link, link, api.OK)
		c.count(2)
	}
}

// full is a cache in which all entries are recorded at 0.
func full(t *testing.T) cache {
	c := fresh(t)
	for i := range 64 {
		c.count(i)
		c.tell(0, path(i), 1300+i, 1300+i, api.OK)
	}
	c.count(64)
	return c
}

// TestFull tells of the sixty-fifth address, and of those that are there.
func TestFull(t *testing.T) {
	for _, now := range []int{0, 599, 600, 100000, -5} {
		c := full(t)
		for i := 64; i < 80; i++ {
			c.tell(now, path(i), 1400, 0, api.ErrFull)
			c.tell(now, path(i), 0, 0, api.ErrFull)
			c.get(now, path(i), 1500, 1500, api.OK)
		}
		c.tell(now, "abc", 1400, 0, api.ErrArg)
		c.count(64)
		old := now >= 600
		for i := range 64 {
			want := 1300 + i
			if old {
				c.get(now, path(i), 9000, 9000, api.OK)
				want = 2000
			}
			c.tell(now, path(i), 2000, want, api.OK)
			c.get(now, path(i), 9000, want, api.OK)
			c.tell(now, path(i), 1290, 1290, api.OK)
			c.get(now, path(i), 9000, 1290, api.OK)
			c.count(64)
		}
		c.tell(now, path(64), 1400, 0, api.ErrFull)
	}
}

// TestSixtyFourth tells of the last address for which there is room, when the
// others are fresh and when they are not.
func TestSixtyFourth(t *testing.T) {
	for _, now := range []int{0, 599, 600} {
		c := fresh(t)
		for i := range 63 {
			c.tell(0, path(i), 1300, 1300, api.OK)
		}
		c.tell(now, path(63), 1350, 1350, api.OK)
		c.count(64)
		c.tell(now, path(64), 1350, 0, api.ErrFull)
		c.get(now, path(63), 1500, 1350, api.OK)
	}
}

// TestFaultsThatMeet holds the checks in their order.
func TestFaultsThatMeet(t *testing.T) {
	c := full(t)
	for _, dst := range []string{"", "abc", "12345", "123456789012345", "12345678901234567"} {
		for _, n := range []int{-1, 0, 600, math.MinInt, math.MaxInt} {
			c.tell(n, dst, n, 0, api.ErrArg)
			c.get(n, dst, n, 0, api.ErrArg)
		}
	}
	c.count(64)
}

// TestPathsApart has what is told of one path leave the others.
func TestPathsApart(t *testing.T) {
	c := full(t)
	c.tell(300, path(10), 1290, 1290, api.OK)
	c.tell(300, path(11), 1290, 1290, api.OK)
	for i := range 64 {
		late, early := 1300+i, 1300+i
		if i == 10 || i == 11 {
			late, early = 1290, 1290
		} else {
			late = 1500
		}
		c.get(599, path(i), 1500, early, api.OK)
		c.get(600, path(i), 1500, late, api.OK)
	}
	// An IPv4 address isn't the IPv6 one that it stands in.
	d := fresh(t)
	d.tell(0, one, 1400, 1400, api.OK)
	for _, dst := range []string{strings.Repeat("\x00", 12) + one, strings.Repeat("\x00", 10) + "\xff\xff" + one, one + strings.Repeat("\x00", 12)} {
		d.get(0, dst, 1500, 1500, api.OK)
	}
}

// TestCachesApart has what is told to one cache leave the others.
func TestCachesApart(t *testing.T) {
	c, d := fresh(t), fresh(t)
	c.tell(0, one, 1000, 1000, api.OK)
	d.get(0, one, 1500, 1500, api.OK)
	d.count(0)
	d.tell(0, one, 1200, 1200, api.OK)
	c.get(0, one, 1500, 1000, api.OK)
}
