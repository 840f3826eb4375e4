package join_test

import (
	"bytes"
	"fmt"
	"math"
	"slices"
	"strings"
	"testing"

	"redoubt/api"
	"redoubt/join"
)

// dice are numbers without a plain order, the same in each run.
type dice struct{ seed uint64 }

// under is a number from 0 to n - 1.
func (d *dice) under(n int) int {
	d.seed = d.seed*6364136223846793005 + 1442695040888963407
	return int(d.seed >> 33 % uint64(n))
}

// once is true once in n times.
func (d *dice) once(n int) bool { return d.under(n) == 0 }

// some is n bytes without a plain order.
func some(n int, seed uint64) []byte {
	d, b := dice{seed}, make([]byte, n)
	for i := range b {
		b[i] = byte(d.under(256))
	}
	return b
}

// text is what the fragments of the tests are cut out of.
var text = some(66000, 5)

// piece is a fragment none of whose other numbers is 0, with the n bytes of text
// that stand at its place.
func piece(off int, n int, more bool) api.Ip4 {
	return api.Ip4{
		Tos: 3, Id: 700, Ttl: 9, Proto: 17,
		Src: "\x0a\x00\x00\x01", Dst: "\x0a\x00\x00\x02",
		Off: off, Mf: more, Data: bytes.Clone(text[off : off+n]),
	}
}

// whole is the packet of n bytes that such fragments make.
func whole(n int) api.Ip4 { return piece(0, n, false) }

// altered is a packet with something altered in it.
func altered(p api.Ip4, alter func(p *api.Ip4)) api.Ip4 {
	p.Data = bytes.Clone(p.Data)
	alter(&p)
	return p
}

// other is a fragment with other data.
func other(p api.Ip4) api.Ip4 {
	return altered(p, func(p *api.Ip4) { p.Data[len(p.Data)-1] ^= 1 })
}

// of is a fragment of the packet with an Id.
func of(id int, p api.Ip4) api.Ip4 {
	p.Id = id
	return p
}

// headed is a fragment with options.
func headed(p api.Ip4, options string) api.Ip4 {
	p.Options = options
	return p
}

// told is a packet as a text, without its data.
func told(p api.Ip4) string {
	n := len(p.Data)
	p.Data = nil
	return fmt.Sprintf("%#v with %d bytes", p, n)
}

// equal tells whether two packets have the same fields.
func equal(p api.Ip4, q api.Ip4) bool {
	return p.Tos == q.Tos && p.Id == q.Id && p.Ttl == q.Ttl && p.Proto == q.Proto &&
		p.Df == q.Df && p.Mf == q.Mf && p.Off == q.Off && p.Src == q.Src && p.Dst == q.Dst &&
		p.Options == q.Options && bytes.Equal(p.Data, q.Data)
}

// bench is a joiner under test.
type bench struct {
	t *testing.T
	j *join.Joiner
}

// fresh is one without packets.
func fresh(t *testing.T) bench { return bench{t, join.New()} }

// waiting fails unless n packets are incomplete.
func (b bench) waiting(n int) {
	b.t.Helper()
	if got := b.j.Waiting(); got != n {
		b.t.Fatalf("P20.3: %d packets wait, not %d", got, n)
	}
}

// answers fails unless Put answers this.
func (b bench) answers(now int, p api.Ip4, want api.Ip4, done bool, e api.Errno) {
	b.t.Helper()
	if q, ok, f := b.j.Put(now, p); !equal(q, want) || ok != done || f != e {
		b.t.Fatalf("P20.1: Put of %s at %d = %s, %t, %d, not %s, %t, %d", told(p), now, told(q), ok, f, told(want), done, e)
	}
}

// keeps fails unless each fragment is kept (or is there), n packets wait then.
func (b bench) keeps(n int, list ...api.Ip4) {
	b.t.Helper()
	for _, p := range list {
		b.answers(0, p, api.Ip4{}, false, api.OK)
	}
	b.waiting(n)
}

// makes fails unless a packet is whole with a fragment, n others wait then.
func (b bench) makes(n int, p api.Ip4, want api.Ip4) {
	b.t.Helper()
	b.answers(0, p, want, true, api.OK)
	b.waiting(n)
}

// refuses fails unless a fragment is refused, n packets wait then.
func (b bench) refuses(n int, p api.Ip4, want api.Errno) {
	b.t.Helper()
	b.answers(0, p, api.Ip4{}, false, want)
	b.waiting(n)
}

// drops fails unless Tick drops packets that have these first fragments, n others
// wait then.
func (b bench) drops(n int, now int, want ...api.Ip4) {
	b.t.Helper()
	if list := b.j.Tick(now); !slices.EqualFunc(list, want, equal) {
		b.t.Fatalf("P20.3: Tick(%d) = %v, not %v", now, ids(list), ids(want))
	}
	b.waiting(n)
}

// ids are the numbers of some packets.
func ids(list []api.Ip4) []int {
	var out []int
	for _, p := range list {
		out = append(out, p.Id)
	}
	return out
}

// TestExample holds the calls against the chapter's examples.
func TestExample(t *testing.T) {
	first, second := piece(0, 8, true), piece(8, 3, false)
	b := fresh(t)
	b.keeps(1, second)
	b.makes(0, first, whole(11))
	b = fresh(t)
	b.keeps(1, first)
	b.drops(0, 60, first)
}

// notValid are ways to make a packet one that layer 3's Check refuses with ErrArg.
func notValid() []func(p *api.Ip4) {
	var list []func(p *api.Ip4)
	for _, n := range []int{-1, 256, math.MinInt, math.MaxInt} {
		list = append(list,
			func(p *api.Ip4) { p.Tos = n },
			func(p *api.Ip4) { p.Ttl = n },
			func(p *api.Ip4) { p.Proto = n })
	}
	for _, n := range []int{-1, 65536, math.MinInt, math.MaxInt} {
		list = append(list, func(p *api.Ip4) { p.Id = n })
	}
	for _, n := range []int{-8, -1, 1, 4, 7, 9, 65527, 65529, 65535, 65536, math.MinInt, math.MaxInt - 7, math.MaxInt} {
		list = append(list, func(p *api.Ip4) { p.Off = n })
	}
	for _, n := range []int{0, 3, 5, 16} {
		list = append(list,
			func(p *api.Ip4) { p.Src = strings.Repeat("a", n) },
			func(p *api.Ip4) { p.Dst = strings.Repeat("a", n) })
	}
	for _, n := range []int{1, 2, 3, 5, 39, 41, 44, 60, 255} {
		list = append(list, func(p *api.Ip4) { p.Options = strings.Repeat("\x01", n) })
	}
	return list
}

// TestCheck puts packets that layer 3's Check refuses, with each of its errors:
// complete ones, fragments, and ones with more faults.
func TestCheck(t *testing.T) {
	b := fresh(t)
	b.keeps(1, piece(8, 8, true))
	for _, p := range []api.Ip4{whole(0), whole(16), piece(0, 8, true), piece(0, 7, true), piece(8, 0, true), piece(8, 16, true), piece(16, 5, false), piece(65512, 8, false)} {
		for _, alter := range notValid() {
			b.refuses(1, altered(p, alter), api.ErrArg)
		}
		for _, options := range []string{"", "\x01\x01\x01\x01", strings.Repeat("\x01", 40)} {
			p.Options, p.Data = options, text[:65516-len(options)]
			b.refuses(1, p, api.ErrLong)
			p.Data = make([]byte, 70000)
			b.refuses(1, p, api.ErrLong)
		}
	}
	b.keeps(1, piece(16, 4, false))
	b.makes(0, piece(0, 8, true), whole(20))
}

// TestComplete puts packets that are complete by themselves: they are returned as
// they are, and nothing is kept, whatever is.
func TestComplete(t *testing.T) {
	b := fresh(t)
	for _, n := range []int{0, 1, 7, 8, 9, 1480, 65514, 65515} {
		b.makes(0, whole(n), whole(n))
	}
	p := whole(65475)
	p.Options, p.Df = strings.Repeat("\x83", 40), true
	p.Tos, p.Ttl, p.Proto, p.Id = 255, 0, 255, 65535
	b.makes(0, p, p)
	p = whole(0)
	p.Data = nil
	b.makes(0, p, p)
}

// TestCompleteAmongFragments puts complete packets while fragments of the same
// packet are kept.
func TestCompleteAmongFragments(t *testing.T) {
	first, second, third := piece(0, 8, true), piece(8, 8, true), piece(16, 3, false)
	for _, kept := range [][]api.Ip4{{first}, {second}, {third}, {first, second}, {first, third}, {second, third}} {
		for _, n := range []int{0, 3, 8, 9, 19, 400} {
			b := fresh(t)
			b.keeps(1, kept...)
			b.makes(1, whole(n), whole(n))
			b.keeps(1, kept...)
			rest := slices.DeleteFunc([]api.Ip4{first, second, third}, func(p api.Ip4) bool {
				return slices.ContainsFunc(kept, func(q api.Ip4) bool { return equal(p, q) })
			})
			b.keeps(1, rest[1:]...)
			b.makes(0, rest[0], whole(19))
		}
	}
}

// TestNames puts fragments that differ in just one of what the fragments of one
// packet have in common.
func TestNames(t *testing.T) {
	first, second := piece(0, 8, true), piece(8, 3, false)
	for _, alter := range []func(p *api.Ip4){
		func(p *api.Ip4) { p.Src = "\x0a\x00\x00\x02" }, func(p *api.Ip4) { p.Src = "\x0b\x00\x00\x01" }, func(p *api.Ip4) { p.Src = "\x0a\x00\x01\x01" },
		func(p *api.Ip4) { p.Dst = "\x0a\x00\x00\x01" }, func(p *api.Ip4) { p.Dst = "\x0b\x00\x00\x02" }, func(p *api.Ip4) { p.Dst = "\x0a\x01\x00\x02" },
		func(p *api.Ip4) { p.Src, p.Dst = p.Dst, p.Src },
		func(p *api.Ip4) { p.Proto = 0 }, func(p *api.Ip4) { p.Proto = 16 }, func(p *api.Ip4) { p.Proto = 17 + 64 },
		func(p *api.Ip4) { p.Id = 0 }, func(p *api.Ip4) { p.Id = 701 }, func(p *api.Ip4) { p.Id = 700 + 32768 },
		func(p *api.Ip4) { p.Id, p.Proto = p.Proto, p.Id%256 },
	} {
		b := fresh(t)
		b.keeps(1, first)
		b.keeps(2, altered(second, alter))
		b.makes(1, altered(first, alter), altered(whole(11), alter))
		b.makes(0, second, whole(11))
	}
}

// TestHeaders puts fragments that differ in all that the fragments of one packet
// need not have in common: the one at 0 decides.
func TestHeaders(t *testing.T) {
	list := []api.Ip4{piece(0, 8, true), piece(8, 16, true), piece(24, 5, false)}
	list[0].Tos, list[0].Ttl, list[0].Df, list[0].Options = 1, 2, true, "\x94\x04ab"
	list[1].Tos, list[1].Ttl, list[1].Df, list[1].Options = 5, 6, false, strings.Repeat("\x01", 40)
	list[2].Tos, list[2].Ttl, list[2].Df, list[2].Options = 7, 8, false, ""
	want := headed(whole(29), "\x94\x04ab")
	want.Tos, want.Ttl, want.Df = 1, 2, true
	orders(len(list), func(order []int) {
		b := fresh(t)
		b.keeps(1, list[order[0]], list[order[1]])
		b.makes(0, list[order[2]], want)
	})
	list[0].Tos, list[0].Ttl, list[0].Df, list[0].Options = 0, 0, false, ""
	list[2].Df = true
	b := fresh(t)
	b.keeps(1, list[2], list[1])
	want = whole(29)
	want.Tos, want.Ttl = 0, 0
	b.makes(0, list[0], want)
}

// orders passes on all orders of the numbers from 0 to n - 1.
func orders(n int, each func(order []int)) {
	var more func(order []int)
	more = func(order []int) {
		if len(order) == n {
			each(order)
		}
		for i := range n {
			if !slices.Contains(order, i) {
				more(append(slices.Clone(order), i))
			}
		}
	}
	more(nil)
}

// TestSizes puts fragments with Mf and all short data, at all places.
func TestSizes(t *testing.T) {
	for _, off := range []int{0, 8, 80, 65472, 65480, 65488, 65496, 65504, 65512, 65520, 65528} {
		for n := range 50 {
			b, want := fresh(t), api.OK
			switch {
			case n == 0, n%8 != 0:
				want = api.ErrForm
			case off+n > 65515:
				want = api.ErrLong
			}
			if want == api.OK {
				b.keeps(1, piece(off, n, true))
				continue
			}
			b.refuses(0, piece(off, n, true), want)
			b.keeps(1, piece(8, 8, true))
			b.refuses(1, piece(off, n, true), want)
		}
	}
}

// TestLastSizes puts fragments without Mf and all short data.
func TestLastSizes(t *testing.T) {
	for n := range 50 {
		b := fresh(t)
		b.keeps(1, piece(8, n, false))
		b.makes(0, piece(0, 8, true), whole(8+n))
		b.keeps(1, piece(0, 8, true))
		b.makes(0, piece(8, n, false), whole(8+n))
		b.keeps(1, piece(80, n, false), piece(0, 8, true), piece(8, 64, true))
		b.makes(0, piece(72, 8, true), whole(80+n))
	}
}

// TestEnd puts fragments whose ends are 65515 and around it.
func TestEnd(t *testing.T) {
	for _, off := range []int{8, 16, 32768, 65504, 65512} {
		for _, e := range []int{65512, 65513, 65514, 65515} {
			b := fresh(t)
			b.keeps(1, piece(off, e-off, false))
			b.makes(0, piece(0, off, true), whole(e))
		}
		for _, e := range []int{65516, 65517, 65520, 65523} {
			b := fresh(t)
			b.refuses(0, piece(off, e-off, false), api.ErrLong)
			b.keeps(1, piece(0, off, true))
			b.refuses(1, piece(off, e-off, false), api.ErrLong)
			b.makes(0, piece(off, 65515-off, false), whole(65515))
		}
	}
	b := fresh(t)
	b.refuses(0, piece(65520, 0, false), api.ErrLong)
	b.refuses(0, piece(65528, 0, false), api.ErrLong)
	b.refuses(0, piece(65504, 16, true), api.ErrLong)
	b.refuses(0, piece(65528, 8, true), api.ErrLong)
	b.refuses(0, headed(piece(65504, 16, false), strings.Repeat("\x01", 40)), api.ErrLong)
	b.keeps(1, piece(65512, 0, false))
	b.makes(0, piece(0, 65512, true), whole(65512))
	b.keeps(1, piece(65504, 8, true))
	b.keeps(1, piece(65512, 3, false))
	b.makes(0, piece(0, 65504, true), whole(65515))
}
