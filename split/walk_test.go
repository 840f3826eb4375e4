package split_test

import (
	"bytes"
	"slices"
	"testing"
	"unsafe"

	"redoubt/api"
	"redoubt/ip4"
	"redoubt/split"
)

// held fails unless the properties hold for what Split answers, and returns how
// many fragments there are; 0 if it answers ErrLong.
func held(t *testing.T, p api.Ip4, mtu int) int {
	t.Helper()
	list, e := split.Split(p, mtu)
	if e == api.ErrLong && len(list) == 0 {
		return 0
	}
	if e != api.OK || len(list) == 0 {
		t.Fatalf("P19.3: %s = %d fragments, %d", told(p, mtu), len(list), e)
	}
	var data []byte
	for i, f := range list {
		if b, e := ip4.Bytes(f); len(b) > mtu || e != api.OK || ip4.Check(f) != api.OK {
			t.Errorf("P19.3: %s: fragment %d has %d bytes, %d", told(p, mtu), i, len(b), e)
		}
		if f.Off != p.Off+len(data) || f.Mf != (p.Mf || i < len(list)-1) {
			t.Errorf("P19.2: %s: fragment %d is at %d, %t", told(p, mtu), i, f.Off, f.Mf)
		}
		if again, e := split.Split(f, mtu); len(again) != 1 || e != api.OK || !equal(again[0], f) {
			t.Errorf("P19.3: %s: fragment %d is %v, %d when it is split again", told(p, mtu), i, places(again), e)
		}
		data = append(data, f.Data...)
	}
	if !bytes.Equal(data, p.Data) {
		t.Errorf("P19.3: %s: the fragments carry other data", told(p, mtu))
	}
	return len(list)
}

// fewer fails unless there are no more fragments with greater mtus.
func fewer(t *testing.T, p api.Ip4, mtus []int) {
	t.Helper()
	least := 1 << 30
	for _, mtu := range mtus {
		n := held(t, p, mtu)
		if n > least {
			t.Fatalf("P19.3: %s = %d fragments, and %d with less", told(p, mtu), n, least)
		}
		if n > 0 {
			least = n
		}
	}
}

// upTo are the numbers from 68 to most.
func upTo(most int) []int {
	var list []int
	for mtu := 68; mtu <= most; mtu++ {
		list = append(list, mtu)
	}
	return list
}

// TestProperties divides packets with options of all lengths at all mtus up to
// their size.
func TestProperties(t *testing.T) {
	for _, options := range allOptions() {
		for _, n := range []int{0, 1, 8, 9, 47, 48, 49, 96, 97, 104, 105, 333} {
			fewer(t, packet(n, options), upTo(400))
		}
		fewer(t, placed(packet(1000, options), 4096, true), upTo(1070))
	}
}

// TestPropertiesAtTheEnd divides packets at the greatest offsets.
func TestPropertiesAtTheEnd(t *testing.T) {
	for _, options := range []string{"", option(131, 40), option(7, 40), option(7, 32) + option(148, 8)} {
		for off := 65528; off >= 65400; off -= 8 {
			for n := 0; n <= 200; n += 7 {
				fewer(t, placed(packet(n, options), off, n%2 == 0), upTo(270))
			}
		}
	}
}

// TestGreat divides the greatest packets, with the least mtu among others.
func TestGreat(t *testing.T) {
	mtus := []int{68, 69, 75, 76, 77, 100, 575, 576, 577, 1280, 1499, 1500, 9000, 32767, 32768, 65532, 65533, 65534, 65535, 65536}
	for _, options := range []string{"", option(131, 40), option(7, 40), "\x07\x03\x04\x94\x04\x00\x00\x00"} {
		p := packet(65515-len(options), options)
		fewer(t, p, mtus)
		for _, mtu := range mtus {
			same(t, p, mtu)
			same(t, placed(p, 0, true), mtu)
			same(t, placed(p, 8, true), mtu)
			same(t, placed(p, 4096, false), mtu)
		}
	}
	if n := held(t, packet(65475, option(131, 40)), 68); n != 8185 { // 8184 of eight bytes, and three
		t.Errorf("P19.2: the greatest packet is %d fragments of the least mtu", n)
	}
	parted(t, packet(65515, ""), 65534, place{0, 65512, true, 0}, place{65512, 3, false, 0})
}

// drawnPacket is a packet that the dice choose.
func drawnPacket(d *dice) api.Ip4 {
	p := packet([]int{d.under(20), d.under(200), d.under(3000), 8 * d.under(300), d.under(65516)}[d.under(5)], "")
	p.Tos, p.Id, p.Ttl, p.Proto = d.under(256), d.under(65536), d.under(256), d.under(256)
	p.Src, p.Dst = string(some(4, uint64(d.under(9)))), string(some(4, uint64(d.under(9))))
	p.Df, p.Mf = d.once(12), d.once(2)
	p.Off = 8 * []int{0, d.under(600), d.under(8192), 8191 - d.under(40)}[d.under(4)]
	p.Options = drawnOptions(d, 4*[]int{0, d.under(11), 10}[d.under(3)], d.once(5))
	if d.once(40) {
		notValid()[d.under(len(notValid()))](&p)
	}
	return p
}

// drawnMtu is an mtu that the dice choose, often one near the packet's size.
func drawnMtu(d *dice, p api.Ip4) int {
	switch d.under(12) {
	case 0:
		return 64 + d.under(10)
	case 1:
		return -3 + d.under(70)
	case 2, 3:
		return size(p) - 3 + d.under(7)
	case 4, 5:
		return 68 + d.under(1500)
	case 6:
		return 68 + d.under(66000)
	}
	return 20 + len(p.Options) + len(p.Data)/(1+d.under(9)) - 9 + d.under(19)
}

// TestWalk divides packets without a plain order.
func TestWalk(t *testing.T) {
	d, count := &dice{7}, map[api.Errno]int{}
	for range 20000 {
		p := drawnPacket(d)
		mtu := drawnMtu(d, p)
		list, e := same(t, p, mtu)
		if count[e]++; e == api.OK && len(list) < 300 {
			held(t, p, mtu)
		}
	}
	for _, e := range []api.Errno{api.OK, api.ErrArg, api.ErrLong, api.ErrForm, api.ErrBig} {
		if count[e] < 20 {
			t.Errorf("the walk comes to error %d %d times", e, count[e])
		}
	}
}

// room is memory in which what is passed lies, with more bytes behind the data.
type room struct {
	data    []byte
	strings []byte
	p       api.Ip4
}

// laid is a packet of n bytes that lies in a room.
func laid(n int, options string) *room {
	r := &room{data: some(n+50, 9), strings: []byte("abcdefgh" + options + "z")}
	r.p = packet(0, "")
	r.p.Src, r.p.Dst = unsafe.String(&r.strings[0], 4), unsafe.String(&r.strings[4], 4)
	r.p.Options = unsafe.String(&r.strings[8], len(options))
	r.p.Data = r.data[:n]
	return r
}

// equal tells whether another room has the same bytes.
func (r *room) equal(s *room) bool {
	return bytes.Equal(r.data, s.data) && bytes.Equal(r.strings, s.strings)
}

// memory marks where bytes lie, and tells whether one of them was marked before.
func memory(lies map[*byte]bool, b []byte) bool {
	again := false
	for i := range b {
		again = again || lies[&b[i]]
		lies[&b[i]] = true
	}
	return again
}

// texts are the strings of a packet, as bytes.
func texts(p api.Ip4) [][]byte {
	var list [][]byte
	for _, s := range []string{p.Src, p.Dst, p.Options} {
		list = append(list, unsafe.Slice(unsafe.StringData(s), len(s)))
	}
	return list
}

// rooms are packets in memory that is known, with an mtu each.
func rooms(each func(fresh func() *room, mtu int)) {
	for _, options := range []string{"", "\x94\x04ab", "\x07\x03\x04\x94\x04\x00\x00\x00", option(131, 40), option(7, 40)} {
		for _, mtu := range []int{68, 69, 76, 200, 317, 318, 360, 1000} {
			for _, n := range []int{0, 1, 8, 9, 48, 64, 297, 298} {
				each(func() *room { return laid(n, options) }, mtu)
			}
		}
	}
}

// TestArgumentIsKept holds what was passed against what it was, with the bytes
// behind the data, and whether the answer is right or refuses.
func TestArgumentIsKept(t *testing.T) {
	rooms(func(fresh func() *room, mtu int) {
		for _, alter := range []func(p *api.Ip4){
			func(p *api.Ip4) {},
			func(p *api.Ip4) { p.Df = true },
			func(p *api.Ip4) { p.Off = 65528 },
			func(p *api.Ip4) { p.Id = -1 },
		} {
			r, s := fresh(), fresh()
			alter(&r.p)
			split.Split(r.p, mtu)
			if !r.equal(s) {
				t.Errorf("P19.2: %s alters what it is passed", told(r.p, mtu))
			}
		}
	})
}

// TestAnswerIsNew alters the packet after Split, and then the fragments one by
// one with the memory behind their data: each goes with nothing else.
func TestAnswerIsNew(t *testing.T) {
	rooms(func(fresh func() *room, mtu int) {
		r, s := fresh(), fresh()
		list, _ := split.Split(r.p, mtu)
		other, _ := split.Split(r.p, mtu)
		want, _ := splitOf(s.p, mtu)
		clear(r.data)
		clear(r.strings)
		if !slices.EqualFunc(list, want, equal) {
			t.Fatalf("P19.2: %s: the fragments go with the packet", told(s.p, mtu))
		}
		for i := range list {
			for j, b := range list[i].Data[:cap(list[i].Data)] {
				list[i].Data[:cap(list[i].Data)][j] = ^b
			}
			list[i].Data = append(list[i].Data, some(100, 1)...)
			if !slices.EqualFunc(list[i+1:], want[i+1:], equal) || !slices.EqualFunc(other, want, equal) {
				t.Fatalf("P19.2: %s: fragment %d shares its data", told(s.p, mtu), i)
			}
		}
		list = append(list[:0], make([]api.Ip4, cap(list))...)
		if !slices.EqualFunc(other, want, equal) || bytes.ContainsFunc(r.data, func(x rune) bool { return x != 0 }) {
			t.Fatalf("P19.2: %s: two answers share memory", told(s.p, mtu))
		}
	})
}

// TestMemory holds where the data and the strings of all fragments lie against
// each other and against what is passed.
func TestMemory(t *testing.T) {
	rooms(func(fresh func() *room, mtu int) {
		r := fresh()
		lies := map[*byte]bool{}
		memory(lies, r.data)
		memory(lies, r.strings)
		first, _ := split.Split(r.p, mtu)
		second, _ := split.Split(r.p, mtu)
		for i, f := range append(slices.Clone(first), second...) {
			for _, b := range append(texts(f), f.Data[:cap(f.Data)]) {
				if memory(lies, b) {
					t.Fatalf("P19.2: %s: fragment %d shares memory", told(r.p, mtu), i)
				}
			}
		}
	})
}
