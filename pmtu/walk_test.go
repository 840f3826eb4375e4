package pmtu_test

import (
	"math"
	"slices"
	"strings"
	"testing"
	"unsafe"

	"redoubt/api"
	"redoubt/pmtu"
)

// known is what a model has of one address.
type known struct {
	dst     string
	mtu, at int
}

// model is a cache by the words of the chapter.
type model struct{ list []known }

// least is the minimum for an address, or 0.
func least(dst string) int {
	return map[int]int{4: 576, 16: 1280}[len(dst)]
}

// young reports whether less than 600 ticks have passed.
func young(now, at int) bool { return now <= at || uint64(now)-uint64(at) < 600 }

// find is where there is something of an address, or -1.
func (m *model) find(dst string) int {
	return slices.IndexFunc(m.list, func(k known) bool { return k.dst == dst })
}

// tell is what Tell must answer.
func (m *model) tell(now int, dst string, mtu int) (int, api.Errno) {
	if least(dst) == 0 {
		return 0, api.ErrArg
	}
	mtu = max(mtu, least(dst))
	i := m.find(dst)
	if i >= 0 && young(now, m.list[i].at) && m.list[i].mtu <= mtu {
		return m.list[i].mtu, api.OK
	}
	if i < 0 && len(m.list) == 64 {
		return 0, api.ErrFull
	}
	if i < 0 {
		i = len(m.list)
		m.list = append(m.list, known{})
	}
	m.list[i] = known{dst, mtu, now}
	return mtu, api.OK
}

// get is what Get must answer.
func (m *model) get(now int, dst string, link int) (int, api.Errno) {
	if least(dst) == 0 {
		return 0, api.ErrArg
	}
	if i := m.find(dst); i >= 0 && young(now, m.list[i].at) {
		return min(link, m.list[i].mtu), api.OK
	}
	return link, api.OK
}

// both is a cache beside a model.
type both struct {
	t *testing.T
	c *pmtu.Cache
	m *model
}

// tell tells both, and holds their answers against each other.
func (b both) tell(now int, dst string, mtu int) {
	b.t.Helper()
	i, rose := b.m.find(dst), 0
	if i >= 0 && young(now, b.m.list[i].at) {
		rose = b.m.list[i].mtu
	}
	got, e := b.c.Tell(now, dst, mtu)
	want, wantE := b.m.tell(now, dst, mtu)
	if got != want || e != wantE {
		b.t.Fatalf("P21.1: Tell(%d, %x, %d) = %d, %d, want %d, %d", now, dst, mtu, got, e, want, wantE)
	}
	if e == api.OK && got < least(dst) {
		b.t.Fatalf("P21.3: Tell(%d, %x, %d) = %d, which is below the minimum", now, dst, mtu, got)
	}
	if rose > 0 && got > rose {
		b.t.Fatalf("P21.3: Tell(%d, %x, %d) = %d, when %d is fresh", now, dst, mtu, got, rose)
	}
	b.count()
}

// get asks both, and holds their answers against each other.
func (b both) get(now int, dst string, link int) {
	b.t.Helper()
	got, e := b.c.Get(now, dst, link)
	want, wantE := b.m.get(now, dst, link)
	if got != want || e != wantE {
		b.t.Fatalf("P21.1: Get(%d, %x, %d) = %d, %d, want %d, %d", now, dst, link, got, e, want, wantE)
	}
	if e == api.OK && link >= least(dst) && got < least(dst) {
		b.t.Fatalf("P21.3: Get(%d, %x, %d) = %d, which is below the minimum", now, dst, link, got)
	}
	b.count()
}

// count holds how many there are in both against each other.
func (b both) count() {
	b.t.Helper()
	if got, want := b.c.Count(), len(b.m.list); got != want {
		b.t.Fatalf("P21.1: Count() = %d, want %d", got, want)
	}
}

// dice throws without chance.
type dice uint64

// throw is a number from 0 to n - 1.
func (d *dice) throw(n int) int {
	*d = *d*6364136223846793005 + 1442695040888963407
	return int(uint64(*d)>>33) % n
}

// TestAllShort walks all sequences of four calls of some.
func TestAllShort(t *testing.T) {
	var calls []func(b both)
	for _, now := range []int{0, 599, 600, 1199} {
		for _, mtu := range []int{570, 1290, 1300} {
			calls = append(calls, func(b both) { b.tell(now, one, mtu) })
		}
	}
	calls = append(calls, func(b both) { b.tell(0, broad, 1000) }, func(b both) { b.tell(600, "abc", 1000) })
	for i := range len(calls) * len(calls) * len(calls) * len(calls) {
		b := both{t, pmtu.New(), &model{}}
		for range 4 {
			calls[i%len(calls)](b)
			i /= len(calls)
		}
		for _, now := range []int{-1, 599, 600, 1198, 1199, 1798, 1799} {
			b.get(now, one, 1500)
			b.get(now, broad, 1500)
		}
	}
}

// TestWalk tells and asks of many paths as it falls.
func TestWalk(t *testing.T) {
	for seed := range 40 {
		d := dice(seed)
		b := both{t, pmtu.New(), &model{}}
		now := 0
		paths := 3 + d.throw(80)
		for range 3000 {
			now += d.throw(40) - 10
			dst := path(d.throw(paths))
			if d.throw(30) == 0 {
				dst = strings.Repeat("a", d.throw(20))
			}
			n := d.throw(3000) - 200
			if d.throw(2) == 0 {
				b.tell(now, dst, n)
			} else {
				b.get(now, dst, n)
			}
		}
	}
}

// TestWalkOfTimes goes to all kinds of times.
func TestWalkOfTimes(t *testing.T) {
	times := []int{math.MinInt, math.MinInt + 1, math.MinInt + 599, math.MinInt + 600, math.MinInt + 1199, math.MinInt + 1200, -2000000000, -1, 0, 1, 599, 600, 601, 1999999400, 1999999401, 2000000000}
	for seed := range 40 {
		d := dice(seed)
		b := both{t, pmtu.New(), &model{}}
		for range 500 {
			now := times[d.throw(len(times))]
			if d.throw(2) == 0 {
				b.tell(now, path(d.throw(3)), 1200+d.throw(300))
			} else {
				b.get(now, path(d.throw(3)), 1200+d.throw(300))
			}
		}
	}
}

// TestOwnMemory alters the bytes of an address when it has been told.
func TestOwnMemory(t *testing.T) {
	raw := []byte(one + broad)
	short, long := unsafe.String(&raw[0], 4), unsafe.String(&raw[4], 16)
	c := cache{t, pmtu.New()}
	for range 2 {
		c.tell(0, short, 1400, 1400, api.OK)
		c.tell(0, long, 1300, 1300, api.OK)
		c.get(0, short, 1500, 1400, api.OK)
		c.get(0, long, 1500, 1300, api.OK)
	}
	if string(raw) != one+broad {
		t.Errorf("P21.1: an address is altered: %x", raw)
	}
	for i := range raw {
		raw[i] ^= 0xff
	}
	c.get(0, one, 1500, 1400, api.OK)
	c.get(0, broad, 1500, 1300, api.OK)
	c.get(0, short, 1500, 1500, api.OK)
	c.get(0, long, 1500, 1500, api.OK)
	c.tell(600, one, 1450, 1450, api.OK)
	c.count(2)
}

// TestOwnMemoryOfLater alters the bytes of an address that was told anew.
func TestOwnMemoryOfLater(t *testing.T) {
	c := cache{t, pmtu.New()}
	c.tell(0, one, 1400, 1400, api.OK)
	raw := []byte(one)
	c.tell(5, unsafe.String(&raw[0], 4), 1300, 1300, api.OK)
	raw[0] ^= 0xff
	c.get(5, one, 1500, 1300, api.OK)
	c.count(1)
}
