package join_test

import (
	"math"
	"strings"
	"testing"

	"redoubt/api"
	"redoubt/join"
)

// TestTick drops a packet 60 after its first fragment, and not before, whatever
// came later.
func TestTick(t *testing.T) {
	for _, at := range []int{0, 1, 60, 100, 1999999939, -1, -59, -60, -61, -1000, math.MinInt, math.MinInt + 1, math.MinInt + 59, math.MinInt + 60} {
		for _, list := range [][]api.Ip4{
			{piece(0, 8, true)},
			{piece(8, 8, true)},
			{piece(8, 8, false)},
			{piece(0, 8, true), piece(16, 8, true)},
			{piece(16, 8, true), piece(0, 8, true)},
			{piece(16, 8, true), piece(24, 3, false), piece(0, 8, true), piece(16, 8, true)},
			{piece(16, 8, true), piece(24, 3, false), piece(16, 8, true)},
		} {
			for _, later := range []int{0, 1, 59, 1000} {
				b, now := fresh(t), at
				for _, p := range list {
					b.answers(now, p, api.Ip4{}, false, api.OK)
					now = at + later
				}
				b.drops(1, at)
				b.drops(1, at+59)
				b.drops(1, min(at, at+1000))
				b.drops(0, at+60, firstsOf(list...)...)
				b.drops(0, at+60)
				b.drops(0, at+1000)
				b.answers(at, list[0], api.Ip4{}, false, api.OK) // anew
				b.drops(0, at+61, firstsOf(list[0])...)
			}
		}
	}
}

// TestTickBefore passes times that are less than those of the fragments.
func TestTickBefore(t *testing.T) {
	for _, at := range []int{0, 59, 2000000000, -1, -100, math.MinInt + 60} {
		b := fresh(t)
		b.answers(at, piece(0, 8, true), api.Ip4{}, false, api.OK)
		for _, now := range []int{at - 1, at - 59, at - 60, math.MinInt, math.MinInt + 1, math.MinInt + 58, math.MinInt + 59} {
			b.drops(1, now)
		}
		b.answers(at-60, piece(16, 8, true), api.Ip4{}, false, api.OK) // an earlier time does not matter either
		b.drops(1, at)
		b.answers(at-1000, piece(0, 8, true), api.Ip4{}, false, api.OK)
		b.drops(1, at)
		b.answers(at, piece(8, 8, true), api.Ip4{}, false, api.OK)
		b.answers(at, piece(24, 1, false), whole(25), true, api.OK)
	}
}

// TestTickFarApart passes times that are as far from each other as they may be.
func TestTickFarApart(t *testing.T) {
	first := piece(0, 8, true)
	for _, at := range []int{math.MinInt, math.MinInt + 59, math.MinInt + 60, math.MinInt + 1000, -2000000000} {
		for _, now := range []int{-1000, 0, 59, 60, 61, 1999999999, 2000000000} {
			b := fresh(t)
			b.answers(at, first, api.Ip4{}, false, api.OK)
			b.drops(0, now, first)
			b.answers(now, first, api.Ip4{}, false, api.OK)
			b.drops(1, at)
			b.drops(1, at+60)
		}
	}
}

// TestTickOfWhole drops nothing of packets that are whole, or were dropped.
func TestTickOfWhole(t *testing.T) {
	b := fresh(t)
	b.makes(0, whole(5), whole(5))
	b.keeps(1, piece(0, 8, true))
	b.makes(0, piece(8, 1, false), whole(9))
	b.keeps(1, piece(0, 8, true))
	b.refuses(0, piece(0, 16, true), api.ErrForm)
	b.drops(0, 1000)
	// What is started anew has the time of its own first fragment.
	b.keeps(1, piece(8, 8, true))
	b.refuses(0, piece(8, 16, true), api.ErrForm)
	b.answers(50, piece(0, 8, true), api.Ip4{}, false, api.OK)
	b.drops(1, 109)
	b.drops(0, 110, piece(0, 8, true))
}

// TestTickAnswers returns the first fragment as it came first.
func TestTickAnswers(t *testing.T) {
	first := headed(piece(0, 24, true), "\x94\x04ab")
	first.Df, first.Tos, first.Ttl = true, 255, 0
	b := fresh(t)
	b.keeps(1, piece(32, 8, true), first, headed(first, ""), piece(48, 1, false))
	b.drops(0, 60, first)
	great := headed(piece(0, 65472, true), strings.Repeat("\x83", 40))
	b.keeps(1, great)
	b.drops(0, 60, great)
}

// put is a fragment at a time.
type put struct {
	now int
	p   api.Ip4
}

// TestTickOrder drops several packets by one Tick: they are told in the order in
// which their first fragments arrived, whatever the times and the numbers are.
func TestTickOrder(t *testing.T) {
	at0, at8 := piece(0, 8, true), piece(8, 8, true)
	puts := []put{
		{10, of(5, at8)}, {5, of(3, at0)}, {7, of(9, at8)}, {20, of(1, at0)}, {0, of(7, at0)},
		{90, of(5, at0)}, {11, of(2, at0)}, {3, of(3, piece(16, 8, true))}, {1, of(1, piece(8, 16, true))}, {-5, of(8, at8)}, {10, of(4, at0)},
	}
	for _, want := range []struct {
		now, left int
		list      []int
	}{
		{54, 8, nil}, {55, 7, nil}, {59, 7, nil}, {60, 6, []int{7}}, {64, 6, []int{7}}, {65, 5, []int{3, 7}}, {67, 4, []int{3, 7}}, {69, 4, []int{3, 7}},
		{70, 2, []int{5, 3, 7, 4}}, {71, 1, []int{5, 3, 7, 2, 4}}, {79, 1, []int{5, 3, 7, 2, 4}}, {80, 0, []int{5, 3, 1, 7, 2, 4}}, {2000000000, 0, []int{5, 3, 1, 7, 2, 4}},
	} {
		b := fresh(t)
		for _, x := range puts {
			b.answers(x.now, x.p, api.Ip4{}, false, api.OK)
		}
		b.waiting(8)
		var firsts []api.Ip4
		for _, id := range want.list {
			firsts = append(firsts, of(id, at0))
		}
		b.drops(want.left, want.now, firsts...)
		b.drops(want.left, want.now)
	}
}

// TestTickOrderAnew puts packets that are whole or dropped and started anew at the
// end of the list.
func TestTickOrderAnew(t *testing.T) {
	at0 := piece(0, 8, true)
	b := fresh(t)
	b.keeps(5, of(1, at0), of(2, at0), of(3, at0), of(4, at0), of(5, at0))
	b.refuses(4, of(2, piece(0, 16, true)), api.ErrForm)
	b.makes(3, of(4, piece(8, 1, false)), of(4, whole(9)))
	b.makes(3, of(3, whole(8)), of(3, whole(8)))
	b.keeps(4, of(4, at0), of(3, at0), of(1, piece(16, 8, true)))
	b.keeps(5, of(2, at0))
	b.drops(0, 60, of(1, at0), of(3, at0), of(5, at0), of(4, at0), of(2, at0))
}

// TestTickOfAll drops sixteen packets by two Ticks.
func TestTickOfAll(t *testing.T) {
	d := &dice{3}
	for range 300 {
		b, now := fresh(t), d.under(100)
		var soon, late []api.Ip4
		left := 0
		for i := range 16 {
			at, p := d.under(100), of((i*7+now)%16, piece(8*d.under(2), 8, true))
			b.answers(at, p, api.Ip4{}, false, api.OK)
			if at <= now {
				soon = append(soon, firstsOf(p)...)
			} else {
				late = append(late, firstsOf(p)...)
				left++
			}
		}
		b.drops(left, now+60, soon...)
		b.drops(0, 160, late...)
	}
}

// TestNil makes every call on a nil joiner.
func TestNil(t *testing.T) {
	b := bench{t, nil}
	for _, now := range []int{math.MinInt, -1, 0, 60, 2000000000, math.MaxInt} {
		for _, p := range []api.Ip4{{}, whole(0), whole(8), piece(0, 8, true), piece(8, 3, false), piece(0, 7, true), piece(65512, 4, false), altered(whole(0), func(p *api.Ip4) { p.Id = -1 }), {Src: "abcd", Dst: "efgh", Data: make([]byte, 70000)}} {
			b.answers(now, p, api.Ip4{}, false, api.ErrNil)
		}
		b.drops(0, now)
	}
}

// TestNew has no packets, and joiners of its own.
func TestNew(t *testing.T) {
	b, c := fresh(t), fresh(t)
	b.waiting(0)
	b.drops(0, 0)
	b.drops(0, 2000000000)
	b.keeps(1, piece(0, 8, true))
	c.keeps(1, piece(8, 5, false))
	b.makes(0, piece(8, 4, false), whole(12))
	c.makes(0, piece(0, 8, true), whole(13))
	for id := range 16 {
		b.keeps(id+1, of(id, piece(0, 8, true)))
		c.waiting(id)
		c.keeps(id+1, of(id+1, piece(0, 8, true)))
	}
	if join.New() == join.New() {
		t.Error("P20.3: New makes one joiner twice")
	}
}

// TestGreatTimes passes times beyond those that are promised for: the calls end.
func TestGreatTimes(t *testing.T) {
	for _, at := range []int{math.MinInt, -1, 0, 2000000001, math.MaxInt - 59, math.MaxInt} {
		for _, now := range []int{math.MinInt, -1, 0, 2000000001, math.MaxInt - 59, math.MaxInt} {
			j := join.New()
			j.Put(at, piece(0, 8, true))
			j.Tick(now)
			j.Put(now, piece(8, 3, false))
			j.Waiting()
		}
	}
}
