package join_test

import (
	"fmt"
	"slices"
	"strings"
	"testing"

	"redoubt/api"
)

// TestJoins starts the sixteenth and the seventeenth incomplete packet.
func TestJoins(t *testing.T) {
	b := fresh(t)
	for id := range 16 {
		b.keeps(id+1, of(id, piece(0, 8, true)))
	}
	b.refuses(16, of(16, piece(0, 8, true)), api.ErrFull)
	b.refuses(16, of(17, piece(8, 4, false)), api.ErrFull)
	b.refuses(16, altered(of(3, piece(8, 4, false)), func(p *api.Ip4) { p.Proto = 6 }), api.ErrFull)
	b.makes(16, of(16, whole(8)), of(16, whole(8)))
	b.keeps(16, of(3, piece(0, 8, true)), of(0, piece(16, 8, true)), of(15, piece(16, 8, false)))
	b.makes(15, of(7, piece(8, 4, false)), of(7, whole(12))) // makes room
	b.keeps(16, of(16, piece(0, 8, true)))
	b.refuses(16, of(7, piece(0, 8, true)), api.ErrFull)
	b.refuses(15, of(9, piece(0, 16, true)), api.ErrForm) // makes room too
	b.keeps(16, of(9, piece(0, 8, true)))
	b.refuses(16, of(17, piece(0, 8, true)), api.ErrFull)
	left := 16
	for _, id := range []int{1, 2, 3, 4, 5, 6, 8, 9, 10, 11, 12, 13, 14, 16} {
		left--
		b.makes(left, of(id, piece(8, 4, false)), of(id, whole(12)))
	}
	b.makes(1, of(15, piece(8, 8, true)), of(15, whole(24)))
	b.keeps(1, of(0, piece(24, 1, false)))
	b.makes(0, of(0, piece(8, 8, true)), of(0, whole(25)))
}

// TestJoinsAreDropped makes room for packets by Tick.
func TestJoinsAreDropped(t *testing.T) {
	b := fresh(t)
	for id := range 16 {
		b.answers(id/4, of(id, piece(0, 8, true)), api.Ip4{}, false, api.OK)
	}
	for i := range 4 {
		b.refuses(16, of(99, piece(8, 8, true)), api.ErrFull)
		var firsts []api.Ip4
		for id := 4 * i; id < 4*i+4; id++ {
			firsts = append(firsts, of(id, piece(0, 8, true)))
		}
		b.drops(12, 60+i, firsts...)
		for id := range 4 {
			b.answers(1000, of(100+4*i+id, piece(8, 8, true)), api.Ip4{}, false, api.OK)
		}
	}
}

// many puts n fragments of eight bytes, from the place 8 on.
func (b bench) many(n int) {
	b.t.Helper()
	for i := range n {
		b.keeps(1, piece(8+8*i, 8, true))
	}
}

// TestPieces makes packets of two to sixty-four fragments.
func TestPieces(t *testing.T) {
	for n := range 63 {
		b, first, last := fresh(t), piece(0, 8, true), piece(8+8*n, 5, false)
		b.many(n)
		b.keeps(1, last)
		b.makes(0, first, whole(13+8*n))
		b.keeps(1, first)
		b.many(n)
		b.makes(0, last, whole(13+8*n))
	}
}

// TestTooManyPieces puts a sixty-fifth fragment: what would add to the packet, make
// it whole or drop it is refused, and it stays.
func TestTooManyPieces(t *testing.T) {
	b := fresh(t)
	b.many(64)
	for _, p := range []api.Ip4{
		piece(520, 8, true), piece(520, 5, false), piece(520, 0, false), piece(2000, 4, false), piece(0, 8, true),
		piece(0, 16, true), other(piece(8, 8, true)), piece(8, 8, false), piece(16, 5, false), piece(16, 0, false), piece(0, 65512, true),
	} {
		b.refuses(1, p, api.ErrFull)
	}
	b.many(64) // those that are there are ignored
	b.keeps(1, headed(piece(512, 8, true), "\x94\x04ab"))
	b.refuses(1, piece(0, 7, true), api.ErrForm)
	b.refuses(1, piece(65512, 4, false), api.ErrLong)
	b.makes(1, whole(8), whole(8))
	b.keeps(2, of(1, piece(0, 8, true)))
	b.makes(1, of(1, piece(8, 8, false)), of(1, whole(16)))
	b.drops(0, 60)

	b.keeps(1, piece(0, 8, true))
	b.many(63)
	b.refuses(1, piece(512, 1, false), api.ErrFull) // all but the end is there
	b.drops(0, 60, piece(0, 8, true))
	b.many(63)
	b.keeps(1, piece(600, 8, true))
	b.refuses(1, piece(0, 8, true), api.ErrFull)
	b.drops(0, 60)
}

// TestIgnoredPieces counts a fragment that comes again and again once.
func TestIgnoredPieces(t *testing.T) {
	b := fresh(t)
	for range 100 {
		b.keeps(1, piece(8, 8, true), headed(piece(8, 8, true), "\x01\x01\x01\x01"))
	}
	b.many(62)
	b.keeps(1, piece(504, 1, false))
	b.makes(0, piece(0, 8, true), whole(505))
}

// TestAgain puts fragments twice: with the same Off, Mf and Data they are ignored,
// whatever else is in them.
func TestAgain(t *testing.T) {
	for _, p := range []api.Ip4{piece(0, 8, true), piece(8, 16, true), piece(24, 9, false), piece(40, 0, false), piece(65512, 3, false)} {
		for _, alter := range []func(p *api.Ip4){
			func(p *api.Ip4) {},
			func(p *api.Ip4) { p.Ttl = 200 },
			func(p *api.Ip4) { p.Tos = 200 },
			func(p *api.Ip4) { p.Df = true },
			func(p *api.Ip4) { p.Options = "\x94\x04ab" },
			func(p *api.Ip4) { p.Options = strings.Repeat("\x01", 40) },
			func(p *api.Ip4) { p.Data = append(make([]byte, 0, 99), p.Data...) },
		} {
			b := fresh(t)
			b.keeps(1, p, altered(p, alter), p, altered(p, alter))
		}
	}
	b, first := fresh(t), piece(0, 8, true)
	b.keeps(1, first, headed(first, "\x94\x04ab"))
	b.makes(0, piece(8, 3, false), whole(11)) // with the header that came first
	b.keeps(1, headed(first, "\x94\x04ab"), first)
	b.makes(0, piece(8, 3, false), headed(whole(11), "\x94\x04ab"))
	b.keeps(1, piece(8, 3, false))
	b.makes(0, first, whole(11))
	b.keeps(1, first) // what came too late starts the packet anew
	b.drops(0, 60, first)
}

// clashes are pairs of fragments that can't be of one packet.
func clashes() [][2]api.Ip4 {
	return [][2]api.Ip4{
		// The same Off, and other Data, another Mf or another end.
		{piece(0, 8, true), other(piece(0, 8, true))},
		{piece(8, 8, true), other(piece(8, 8, true))},
		{piece(8, 5, false), other(piece(8, 5, false))},
		{piece(8, 8, true), piece(8, 8, false)},
		{piece(8, 8, true), other(piece(8, 8, false))},
		{piece(0, 8, true), piece(0, 16, true)},
		{piece(8, 8, true), piece(8, 16, true)},
		{piece(8, 8, false), piece(8, 9, false)},
		{piece(8, 8, true), piece(8, 9, false)},
		{piece(8, 8, true), piece(8, 7, false)},
		{piece(8, 8, true), piece(8, 0, false)},
		// One byte in both, with the same end and with two ends.
		{piece(8, 9, false), piece(16, 1, false)},
		{piece(8, 9, false), piece(16, 8, true)},
		{piece(8, 9, false), piece(16, 2, false)},
		{piece(8, 16, true), piece(16, 1, false)},
		// More bytes in both.
		{piece(0, 16, true), piece(8, 16, true)},
		{piece(8, 24, true), piece(24, 24, true)},
		{piece(8, 24, true), piece(24, 24, false)},
		// One lies in the other: at its beginning, in the middle, at its end.
		{piece(0, 24, true), piece(0, 8, true)},
		{piece(0, 24, true), piece(8, 8, true)},
		{piece(0, 24, true), piece(16, 8, true)},
		{piece(0, 24, true), piece(16, 8, false)},
		{piece(8, 24, false), piece(8, 8, true)},
		{piece(8, 24, false), piece(16, 8, true)},
		{piece(8, 24, false), piece(24, 8, true)},
		{piece(8, 24, false), piece(24, 8, false)},
		{piece(8, 24, false), piece(16, 8, false)},
		{piece(0, 65512, true), piece(32000, 8, true)},
		// The end lies before that of another one.
		{piece(8, 5, false), piece(16, 8, true)},
		{piece(8, 8, false), piece(16, 8, true)},
		{piece(8, 8, false), piece(24, 8, true)},
		{piece(8, 0, false), piece(16, 8, true)},
		{piece(16, 0, false), piece(8, 16, true)},
		{piece(8, 0, false), piece(0, 16, true)},
		{piece(8, 7, false), piece(65504, 8, true)},
		// Two ends.
		{piece(8, 8, false), piece(16, 1, false)},
		{piece(8, 8, false), piece(24, 1, false)},
		{piece(8, 8, false), piece(24, 0, false)},
		{piece(8, 3, false), piece(16, 0, false)},
		{piece(40, 0, false), piece(48, 0, false)},
		{piece(40, 0, false), piece(40, 1, false)},
		{piece(65512, 3, false), piece(65512, 2, false)},
	}
}

// firstsOf are those of some fragments that stand at 0.
func firstsOf(list ...api.Ip4) []api.Ip4 {
	return slices.DeleteFunc(slices.Clone(list), func(p api.Ip4) bool { return p.Off != 0 })
}

// TestClashes puts such pairs in both orders: the packet is dropped with both, the
// others are not, and it can be started anew.
func TestClashes(t *testing.T) {
	for _, pair := range clashes() {
		for _, swap := range []bool{false, true} {
			p, q := pair[0], pair[1]
			if swap {
				p, q = q, p
			}
			t.Run(fmt.Sprintf("%d,%d,%t;%d,%d,%t", p.Off, len(p.Data), p.Mf, q.Off, len(q.Data), q.Mf), func(t *testing.T) {
				b := fresh(t)
				b.keeps(3, of(1, piece(0, 8, true)), p, of(2, p))
				b.refuses(2, q, api.ErrForm)
				b.keeps(3, q)
				b.refuses(2, p, api.ErrForm)
				b.keeps(3, p)
				b.drops(0, 60, firstsOf(of(1, piece(0, 8, true)), of(2, p), p)...)
			})
		}
	}
}

// TestClashDropsAll drops packets of which more is there than the fragment that
// another one clashes with, which is any of them.
func TestClashDropsAll(t *testing.T) {
	list := []api.Ip4{piece(8, 8, true), piece(24, 16, true), piece(56, 8, true), piece(80, 4, false)}
	for _, bad := range []api.Ip4{
		other(list[0]), other(list[1]), other(list[2]), other(list[3]),
		piece(0, 16, true), piece(16, 16, true), piece(32, 16, true), piece(48, 16, true), piece(72, 16, true),
		piece(64, 8, false), piece(80, 8, true), piece(88, 8, true), piece(80, 5, false), piece(80, 3, false), piece(88, 0, false),
	} {
		orders(len(list), func(order []int) {
			b := fresh(t)
			for _, i := range order {
				b.keeps(1, list[i])
			}
			b.refuses(0, bad, api.ErrForm)
			b.keeps(1, piece(0, 8, true), piece(8, 72, true))
			b.makes(0, piece(80, 7, false), whole(87))
		})
	}
}

// TestTouch puts fragments that touch, and ones with a gap between them, in both
// orders.
func TestTouch(t *testing.T) {
	for _, pair := range [][2]api.Ip4{
		{piece(0, 8, true), piece(8, 8, true)},
		{piece(8, 8, true), piece(16, 8, true)},
		{piece(8, 16, true), piece(24, 1, false)},
		{piece(8, 8, true), piece(16, 0, false)},
		{piece(8, 8, false), piece(16, 0, false)}, // both end the packet at 16
		{piece(0, 8, true), piece(16, 8, true)},
		{piece(8, 8, true), piece(65512, 3, false)},
		{piece(0, 8, true), piece(16, 0, false)},
	} {
		for _, swap := range []bool{false, true} {
			b := fresh(t)
			if swap {
				b.keeps(1, pair[1], pair[0])
			} else {
				b.keeps(1, pair[0], pair[1])
			}
			b.drops(0, 60, firstsOf(pair[:]...)...)
		}
	}
	// Two that end the packet at the same place, in all orders.
	list := []api.Ip4{piece(0, 8, true), piece(8, 8, false), piece(16, 0, false)}
	b := fresh(t)
	b.keeps(1, list[1], list[2])
	b.makes(0, list[0], whole(16))
	b.keeps(1, list[2], list[1])
	b.makes(0, list[0], whole(16))
	b.keeps(1, list[0], list[2])
	b.makes(0, list[1], whole(16))
	b.keeps(1, list[0])
	b.makes(0, list[1], whole(16))
	b.keeps(1, list[2])
}

// fault is something wrong with a fragment that could be put without it.
type fault struct {
	want api.Errno
	make func(p *api.Ip4)
}

// faults are in the order in which they are looked for.
func faults() []fault {
	return []fault{
		{api.ErrArg, func(p *api.Ip4) { p.Tos = 256 }},
		{api.ErrLong, func(p *api.Ip4) { p.Data = make([]byte, 65520) }},
		{api.ErrForm, func(p *api.Ip4) { p.Data = append(p.Data, 1) }},
		{api.ErrLong, func(p *api.Ip4) { p.Off = 65512 }},
	}
}

// TestFaults makes all sets of faults, where the fragment would be kept, ignored,
// refused, or drop the packet, or make it whole: the fault that is looked for first
// decides, and nothing is dropped.
func TestFaults(t *testing.T) {
	own := piece(8, 16, true)
	for _, start := range []func(b bench){
		func(b bench) {},
		func(b bench) { b.keeps(1, own) },
		func(b bench) { b.keeps(1, piece(16, 8, true)) },
		func(b bench) { b.keeps(1, piece(65512, 3, false)) },
		func(b bench) { b.many(64) },
		func(b bench) { b.keeps(1, piece(0, 8, true), piece(24, 0, false)) },
		func(b bench) {
			for id := range 16 {
				b.keeps(id+1, of(id, own))
			}
		},
	} {
		for set := 1; set < 16; set++ {
			p, want := piece(8, 16, true), api.OK
			for i, f := range slices.Backward(faults()) {
				if set>>i&1 == 1 {
					want = f.want
				}
			}
			for i, f := range faults() {
				if set>>i&1 == 1 {
					f.make(&p)
				}
			}
			b := fresh(t)
			start(b)
			b.refuses(b.j.Waiting(), p, want)
		}
	}
}
