package split_test

import (
	"bytes"
	"fmt"
	"math"
	"slices"
	"strings"
	"testing"

	"redoubt/api"
	"redoubt/ip4"
	"redoubt/split"
)

// dice are numbers without a plain order, the same in each run.
type dice struct{ seed uint64 }

// under is a number from 0 to n - 1.
func (d *dice) under(n int) int {
	d.seed = d.seed*6364136223846793005 + 1442695040888963407
	return int(d.seed >> 33 % uint64(n))
}

// once is true once in n times.
func (d *dice) once(n int) bool { return d.under(n) == 0 }

// some is n bytes without a plain order.
func some(n int, seed uint64) []byte {
	d, b := dice{seed}, make([]byte, n)
	for i := range b {
		b[i] = byte(d.under(256))
	}
	return b
}

// packet is a packet none of whose numbers is 0, with n bytes of data.
func packet(n int, options string) api.Ip4 {
	return api.Ip4{
		Tos: 3, Id: 700, Ttl: 9, Proto: 17,
		Src: "\x0a\x00\x00\x01", Dst: "\x0a\x00\x00\x02",
		Options: options, Data: some(n, 5),
	}
}

// placed is a packet that is a fragment.
func placed(p api.Ip4, off int, mf bool) api.Ip4 {
	p.Off, p.Mf = off, mf
	return p
}

// told is a call of Split as a text, without the packet's data.
func told(p api.Ip4, mtu int) string {
	n := len(p.Data)
	p.Data = nil
	return fmt.Sprintf("Split of %#v with %d bytes, %d", p, n, mtu)
}

// equal tells whether two packets have the same fields.
func equal(p api.Ip4, q api.Ip4) bool {
	return p.Tos == q.Tos && p.Id == q.Id && p.Ttl == q.Ttl && p.Proto == q.Proto &&
		p.Df == q.Df && p.Mf == q.Mf && p.Off == q.Off && p.Src == q.Src && p.Dst == q.Dst &&
		p.Options == q.Options && bytes.Equal(p.Data, q.Data)
}

// size is how many bytes a packet has in all.
func size(p api.Ip4) int { return 20 + len(p.Options) + len(p.Data) }

// splitOf is what Split must answer, by the words of the chapters.
func splitOf(p api.Ip4, mtu int) ([]api.Ip4, api.Errno) {
	later, ok := laterOf(p.Options)
	switch {
	case ip4.Check(p) != api.OK:
		return nil, ip4.Check(p)
	case mtu < 68:
		return nil, api.ErrArg
	case size(p) <= mtu:
		return []api.Ip4{p}, api.OK
	case p.Df:
		return nil, api.ErrBig
	case !ok:
		return nil, api.ErrForm
	}
	var list []api.Ip4
	for at := 0; at < len(p.Data); {
		f := p
		if at > 0 {
			f.Options = later
		}
		f.Off += at
		if f.Off > 65528 {
			return nil, api.ErrLong
		}
		f.Data = p.Data[at:]
		if room := mtu - 20 - len(f.Options); len(f.Data) > room {
			for room%8 != 0 {
				room--
			}
			f.Data, f.Mf = f.Data[:room], true
		}
		at += len(f.Data)
		list = append(list, f)
	}
	return list, api.OK
}

// fails fails unless Split refuses with an error.
func fails(t *testing.T, p api.Ip4, mtu int, want api.Errno) {
	t.Helper()
	if list, e := split.Split(p, mtu); len(list) != 0 || e != want {
		t.Fatalf("P19.2: %s = %d fragments, %d, not %d", told(p, mtu), len(list), e, want)
	}
}

// alone fails unless Split answers the packet.
func alone(t *testing.T, p api.Ip4, mtu int) {
	t.Helper()
	if list, e := split.Split(p, mtu); e != api.OK || len(list) != 1 || !equal(list[0], p) {
		t.Fatalf("P19.2: %s = %d fragments, %d, not it alone", told(p, mtu), len(list), e)
	}
}

// same fails unless Split answers what the chapter's words give, and returns that.
func same(t *testing.T, p api.Ip4, mtu int) ([]api.Ip4, api.Errno) {
	t.Helper()
	want, wrong := splitOf(p, mtu)
	list, e := split.Split(p, mtu)
	if e != wrong || !slices.EqualFunc(list, want, equal) {
		t.Fatalf("P19.2: %s = %v, %d, not %v, %d", told(p, mtu), places(list), e, places(want), wrong)
	}
	return want, wrong
}

// place is where a fragment stands: its offset, how many bytes it has, whether more
// come, and how many bytes of options it has.
type place struct {
	off, n  int
	more    bool
	options int
}

// places are those of some packets.
func places(list []api.Ip4) []place {
	var out []place
	for _, p := range list {
		out = append(out, place{p.Off, len(p.Data), p.Mf, len(p.Options)})
	}
	return out
}

// parted fails unless Split answers fragments that stand in places, and are in all
// else like the packet.
func parted(t *testing.T, p api.Ip4, mtu int, want ...place) {
	t.Helper()
	list, e := split.Split(p, mtu)
	if e != api.OK || !slices.Equal(places(list), want) {
		t.Errorf("P19.2: %s = %v, %d, not %v", told(p, mtu), places(list), e, want)
		return
	}
	for i, f := range list {
		q := p
		q.Off, q.Mf = want[i].off, want[i].more
		q.Data = p.Data[f.Off-p.Off:][:want[i].n]
		if i > 0 {
			q.Options, _ = laterOf(p.Options)
		}
		if !equal(f, q) {
			t.Errorf("P19.2: %s: fragment %d is %#v, not %#v", told(p, mtu), i, f, q)
		}
	}
}

// The options of packets, of all lengths: all of them are in every fragment, some,
// or none.
var (
	all  = []string{"", "\x83\x03a\x00", option(131, 8), option(128, 5) + option(255, 6) + "\x00", option(148, 16), option(131, 20), option(137, 23) + "\x00", option(131, 28), option(200, 32), option(131, 36), option(131, 20) + option(148, 20), option(131, 40)}
	half = []string{"\x94\x02\x07\x02", "\x83\x03a\x07\x05bcd", "\x07\x03\x04\x94\x04\x00\x00\x00", option(7, 11) + "\x01" + option(148, 4) + option(131, 3) + "\x00", option(131, 3) + option(7, 17), option(7, 36) + option(148, 4), option(7, 4) + option(148, 36), option(7, 19) + option(131, 21)}
	none = []string{"\x01\x01\x01\x01", zeros(8), option(7, 12), "\x01" + option(68, 18) + "\x00", option(127, 20), option(7, 24), option(7, 31) + "\x00", option(7, 40), "\x01" + option(7, 39), zeros(40), "\x00" + strings.Repeat("\x83", 39)}
)

// allOptions are those.
func allOptions() []string { return slices.Concat(all, half, none) }

// TestExample holds the calls against the chapter's example.
func TestExample(t *testing.T) {
	parted(t, packet(1480, ""), 820, place{0, 800, true, 0}, place{800, 680, false, 0})
}

// TestRoom divides packets whose room for data is a multiple of eight, one less and
// one more, into a last fragment that is just full, and one byte more.
func TestRoom(t *testing.T) {
	for mtu := 68; mtu <= 75; mtu++ {
		room := mtu - 20
		alone(t, packet(room, ""), mtu)
		parted(t, packet(room+1, ""), mtu, place{0, 48, true, 0}, place{48, room + 1 - 48, false, 0})
		parted(t, packet(48+room, ""), mtu, place{0, 48, true, 0}, place{48, room, false, 0})
		parted(t, packet(49+room, ""), mtu, place{0, 48, true, 0}, place{48, 48, true, 0}, place{96, room - 47, false, 0})
		parted(t, packet(96+room, ""), mtu, place{0, 48, true, 0}, place{48, 48, true, 0}, place{96, room, false, 0})
		parted(t, packet(97+room, ""), mtu, place{0, 48, true, 0}, place{48, 48, true, 0}, place{96, 48, true, 0}, place{144, room - 47, false, 0})
	}
	parted(t, packet(104, ""), 76, place{0, 56, true, 0}, place{56, 48, false, 0})
	parted(t, packet(112, ""), 76, place{0, 56, true, 0}, place{56, 56, false, 0})
	parted(t, packet(113, ""), 76, place{0, 56, true, 0}, place{56, 56, true, 0}, place{112, 1, false, 0})
	parted(t, packet(1481, ""), 1500, place{0, 1480, true, 0}, place{1480, 1, false, 0})
	parted(t, packet(2960, ""), 1500, place{0, 1480, true, 0}, place{1480, 1480, false, 0})
	parted(t, packet(2961, ""), 1500, place{0, 1480, true, 0}, place{1480, 1480, true, 0}, place{2960, 1, false, 0})
}

// TestRoomBesideOptions divides packets whose first fragment has other options than
// the later ones, and ones in which all have the same.
func TestRoomBesideOptions(t *testing.T) {
	most, ends := option(131, 40), option(7, 40)
	few := option(7, 32) + option(148, 7) + "\x00"
	alone(t, packet(8, most), 68)
	parted(t, packet(9, most), 68, place{0, 8, true, 40}, place{8, 1, false, 40})
	parted(t, packet(24, most), 68, place{0, 8, true, 40}, place{8, 8, true, 40}, place{16, 8, false, 40})
	parted(t, packet(25, most), 68, place{0, 8, true, 40}, place{8, 8, true, 40}, place{16, 8, true, 40}, place{24, 1, false, 40})
	parted(t, packet(17, most), 69, place{0, 8, true, 40}, place{8, 9, false, 40})
	parted(t, packet(18, most), 69, place{0, 8, true, 40}, place{8, 8, true, 40}, place{16, 2, false, 40})

	alone(t, packet(8, ends), 68)
	parted(t, packet(9, ends), 68, place{0, 8, true, 40}, place{8, 1, false, 0})
	parted(t, packet(56, ends), 68, place{0, 8, true, 40}, place{8, 48, false, 0})
	parted(t, packet(57, ends), 68, place{0, 8, true, 40}, place{8, 48, true, 0}, place{56, 1, false, 0})
	parted(t, packet(104, ends), 68, place{0, 8, true, 40}, place{8, 48, true, 0}, place{56, 48, false, 0})
	parted(t, packet(63, ends), 75, place{0, 8, true, 40}, place{8, 55, false, 0})
	parted(t, packet(64, ends), 75, place{0, 8, true, 40}, place{8, 48, true, 0}, place{56, 8, false, 0})

	parted(t, packet(48, few), 68, place{0, 8, true, 40}, place{8, 40, false, 8})
	parted(t, packet(49, few), 68, place{0, 8, true, 40}, place{8, 40, true, 8}, place{48, 1, false, 8})
	parted(t, packet(88, few), 68, place{0, 8, true, 40}, place{8, 40, true, 8}, place{48, 40, false, 8})
	parted(t, packet(89, few), 68, place{0, 8, true, 40}, place{8, 40, true, 8}, place{48, 40, true, 8}, place{88, 1, false, 8})
}

// TestFits takes packets of just mtu bytes, one less and one more, with options of
// all lengths.
func TestFits(t *testing.T) {
	for _, options := range allOptions() {
		for _, mtu := range []int{68, 69, 70, 71, 72, 75, 76, 77, 100, 575, 576, 577, 1280, 1500, 9000, 65534, 65535} {
			n := mtu - 20 - len(options)
			alone(t, packet(n, options), mtu)
			alone(t, packet(n-1, options), mtu)
			if mtu < 65535 {
				if list, _ := same(t, packet(n+1, options), mtu); len(list) < 2 {
					t.Errorf("P19.2: %d bytes behind %x are one fragment of %d", n+1, options, mtu)
				}
			}
			p := packet(n, options)
			p.Df = true
			alone(t, p, mtu)
			if mtu < 65535 {
				p.Data = some(n+1, 6)
				fails(t, p, mtu, api.ErrBig)
			}
		}
	}
}

// TestNoData takes packets without data, which fit into every right mtu.
func TestNoData(t *testing.T) {
	for _, options := range append(allOptions(), "\x83\x01\x00\x00", strings.Repeat("\x83", 40)) {
		for _, mtu := range []int{68, 69, 1500, 65535, 65536, math.MaxInt} {
			for _, data := range [][]byte{nil, {}} {
				p := packet(0, options)
				p.Data = data
				alone(t, p, mtu)
				alone(t, placed(p, 65528, true), mtu)
			}
		}
	}
}

// TestMtu takes an mtu below 68, and from there on, beside packets that fit and
// ones that do not.
func TestMtu(t *testing.T) {
	for _, options := range []string{"", option(131, 40), option(7, 40), "\x83\x01\x00\x00"} {
		for _, n := range []int{0, 1, 7, 8, 9, 48, 49, 1480, 65475} {
			for _, mtu := range []int{math.MinInt, math.MinInt + 60, -65536, -68, -1, 0, 1, 8, 20, 28, 60, 66, 67} {
				p := packet(n, options)
				fails(t, p, mtu, api.ErrArg)
				p.Df = true
				fails(t, placed(p, 65528, false), mtu, api.ErrArg)
			}
		}
	}
	for _, mtu := range []int{68, 69, 75, 76, 65534, 65535, 65536, 1 << 31, math.MaxInt - 1, math.MaxInt} {
		for _, options := range allOptions() {
			for _, n := range []int{0, 1, 8, 9, 48, 49, 50, 65475} {
				same(t, packet(n, options), mtu)
			}
		}
	}
	alone(t, packet(48, ""), 68)
	alone(t, packet(49, ""), 69)
	parted(t, packet(50, ""), 69, place{0, 48, true, 0}, place{48, 2, false, 0})
	for _, mtu := range []int{65535, 65536, math.MaxInt} {
		alone(t, packet(65515, ""), mtu)
		alone(t, packet(65475, option(131, 40)), mtu)
	}
}

// TestDf divides no packet whose Df is set, and keeps it set in one that fits.
func TestDf(t *testing.T) {
	for _, mf := range []bool{false, true} {
		for _, off := range []int{0, 8, 65528} {
			p := placed(packet(1480, ""), off, mf)
			p.Df = true
			alone(t, p, 1500)
			alone(t, p, 65535)
			for _, mtu := range []int{68, 576, 1499} {
				fails(t, p, mtu, api.ErrBig)
			}
		}
	}
}

// TestFragments divides packets that are fragments already.
func TestFragments(t *testing.T) {
	for _, off := range []int{0, 8, 80, 4096, 65280} {
		for _, mf := range []bool{false, true} {
			alone(t, placed(packet(48, ""), off, mf), 68)
			parted(t, placed(packet(49, ""), off, mf), 68, place{off, 48, true, 0}, place{off + 48, 1, mf, 0})
			parted(t, placed(packet(100, ""), off, mf), 68, place{off, 48, true, 0}, place{off + 48, 48, true, 0}, place{off + 96, 4, mf, 0})
			parted(t, placed(packet(25, option(7, 40)), off, mf), 69, place{off, 8, true, 40}, place{off + 8, 17, mf, 0})
			parted(t, placed(packet(26, option(131, 40)), off, mf), 69, place{off, 8, true, 40}, place{off + 8, 8, true, 40}, place{off + 16, 8, true, 40}, place{off + 24, 2, mf, 40})
		}
	}
}

// TestOff brings the offset of the first, of a later and of the last fragment to
// the greatest one, one unit less, and beyond.
func TestOff(t *testing.T) {
	for _, mf := range []bool{false, true} {
		for _, off := range []int{65512, 65520, 65528} { // the second one is beyond
			alone(t, placed(packet(48, ""), off, mf), 68)
			fails(t, placed(packet(49, ""), off, mf), 68, api.ErrLong)
			fails(t, placed(packet(65515, ""), off, mf), 68, api.ErrLong)
			alone(t, placed(packet(65515, ""), off, mf), 65535)
			fails(t, placed(packet(65515, ""), off, mf), 65534, api.ErrLong)
		}
		parted(t, placed(packet(96, ""), 65472, mf), 68, place{65472, 48, true, 0}, place{65520, 48, mf, 0})
		fails(t, placed(packet(97, ""), 65472, mf), 68, api.ErrLong)
		parted(t, placed(packet(96, ""), 65480, mf), 68, place{65480, 48, true, 0}, place{65528, 48, mf, 0})
		fails(t, placed(packet(97, ""), 65480, mf), 68, api.ErrLong)
		fails(t, placed(packet(49, ""), 65488, mf), 68, api.ErrLong)
		parted(t, placed(packet(144, ""), 65432, mf), 68, place{65432, 48, true, 0}, place{65480, 48, true, 0}, place{65528, 48, mf, 0})
		fails(t, placed(packet(145, ""), 65432, mf), 68, api.ErrLong)

		parted(t, placed(packet(56, option(7, 40)), 65520, mf), 68, place{65520, 8, true, 40}, place{65528, 48, mf, 0})
		fails(t, placed(packet(57, option(7, 40)), 65520, mf), 68, api.ErrLong)
		fails(t, placed(packet(9, option(7, 40)), 65528, mf), 68, api.ErrLong)
		parted(t, placed(packet(24, option(131, 40)), 65512, mf), 68, place{65512, 8, true, 40}, place{65520, 8, true, 40}, place{65528, 8, mf, 40})
		fails(t, placed(packet(25, option(131, 40)), 65512, mf), 68, api.ErrLong)

		// A greater mtu may bring the second offset beyond.
		parted(t, placed(packet(60, ""), 65480, mf), 68, place{65480, 48, true, 0}, place{65528, 12, mf, 0})
		fails(t, placed(packet(60, ""), 65480, mf), 76, api.ErrLong)
		alone(t, placed(packet(60, ""), 65480, mf), 80)
	}
}

// TestOffsAndSizes takes all the offsets at the end beside all short data.
func TestOffsAndSizes(t *testing.T) {
	for _, options := range []string{"", option(131, 40), option(7, 40), option(7, 32) + option(148, 8)} {
		for off := 65528; off >= 65280; off -= 8 {
			for n := 0; n <= 260; n++ {
				for _, mtu := range []int{68, 69, 76, 131} {
					same(t, placed(packet(n, options), off, n%2 == 1), mtu)
				}
			}
		}
	}
}

// TestSizes takes all short data beside options of all lengths and all small mtus.
func TestSizes(t *testing.T) {
	for _, options := range allOptions() {
		for mtu := 68; mtu <= 92; mtu++ {
			for n := 0; n <= 170; n++ {
				same(t, placed(packet(n, options), 0, n%2 == 1), mtu)
			}
		}
	}
}

// altered is a packet with something altered in it.
func altered(p api.Ip4, alter func(p *api.Ip4)) api.Ip4 {
	alter(&p)
	return p
}

// notValid are ways to make a packet one that layer 3's Check refuses with ErrArg.
func notValid() []func(p *api.Ip4) {
	var list []func(p *api.Ip4)
	for _, n := range []int{-1, 256, math.MinInt, math.MaxInt} {
		list = append(list,
			func(p *api.Ip4) { p.Tos = n },
			func(p *api.Ip4) { p.Ttl = n },
			func(p *api.Ip4) { p.Proto = n })
	}
	for _, n := range []int{-1, 65536, math.MinInt, math.MaxInt} {
		list = append(list, func(p *api.Ip4) { p.Id = n })
	}
	for _, n := range []int{-8, -1, 1, 4, 7, 9, 65527, 65529, 65535, 65536, math.MinInt, math.MaxInt} {
		list = append(list, func(p *api.Ip4) { p.Off = n })
	}
	for _, n := range []int{0, 3, 5, 16} {
		list = append(list,
			func(p *api.Ip4) { p.Src = zeros(n) },
			func(p *api.Ip4) { p.Dst = zeros(n) })
	}
	for _, n := range []int{1, 2, 3, 5, 39, 41, 44, 60, 255} {
		list = append(list, func(p *api.Ip4) { p.Options = zeros(n) })
	}
	return list
}

// TestCheck takes packets that layer 3's Check refuses, with each of its errors,
// beside every mtu, whether they would fit or not.
func TestCheck(t *testing.T) {
	for _, mtu := range []int{math.MinInt, -1, 0, 67, 68, 69, 1500, 65535, 65536, math.MaxInt} {
		for _, n := range []int{0, 8, 49, 1480, 65516, 70000} {
			for _, alter := range notValid() {
				p := altered(packet(n, ""), alter)
				fails(t, p, mtu, api.ErrArg)
				p.Df = true
				fails(t, p, mtu, api.ErrArg)
			}
		}
		for _, options := range allOptions() {
			p := packet(65516-len(options), options)
			fails(t, p, mtu, api.ErrLong)
			p.Df, p.Off = true, 65528
			fails(t, p, mtu, api.ErrLong)
			p.Data = some(200000, 1)
			fails(t, p, mtu, api.ErrLong)
		}
		fails(t, packet(65476, strings.Repeat("\x83", 40)), mtu, api.ErrLong)
	}
}

// TestMalformed takes packets whose options layer 3 refuses: that matters only
// where they are divided.
func TestMalformed(t *testing.T) {
	for _, options := range []string{
		"\x02\x01\x00\x00", "\x83\x00\x00\x00", "\x83\x01\x00\x00", "\x07\x05ab", "\x94\x05ab", "\x01\x01\x01\x83", "\x01\x01\x01\x07",
		"\x94\x04\x00\x00\x83\x05ab", "\x94\x04\x00\x00\x07\xff\x00\x00", strings.Repeat("\x01", 39) + "\xff", option(131, 36) + "\x01\x01\x07\x03",
	} {
		for _, mtu := range []int{68, 69, 576, 1500, 65535} {
			n := mtu - 20 - len(options)
			for _, df := range []bool{false, true} {
				p := packet(n, options)
				p.Df = df
				alone(t, p, mtu)
				alone(t, placed(p, 65528, true), mtu)
			}
			if mtu < 65535 {
				p := packet(n+1, options)
				fails(t, p, mtu, api.ErrForm)
				fails(t, placed(p, 65528, true), mtu, api.ErrForm)
				p.Df = true
				fails(t, p, mtu, api.ErrBig)
			}
		}
	}
}

// input is what Split is passed.
type input struct {
	p   api.Ip4
	mtu int
}

// fault is something wrong with an input that could be divided without it.
type fault struct {
	want api.Errno
	make func(in *input)
}

// faults are in the order in which they are looked for.
func faults() []fault {
	return []fault{
		{api.ErrArg, func(in *input) { in.p.Src = "abc" }},
		{api.ErrArg, func(in *input) { in.p.Id = 65536 }},
		{api.ErrLong, func(in *input) { in.p.Data = some(65516, 4) }},
		{api.ErrArg, func(in *input) { in.mtu = 67 }},
		{api.ErrArg, func(in *input) { in.mtu = min(in.mtu, -1) }},
		{api.ErrBig, func(in *input) { in.p.Df = true }},
		{api.ErrForm, func(in *input) { in.p.Options = "\x94\x02\x83\x01" }},
		{api.ErrLong, func(in *input) { in.p.Off = 65528 }},
	}
}

// TestFaults makes all sets of faults: the one that is looked for first decides.
func TestFaults(t *testing.T) {
	list := faults()
	for set := range 1 << len(list) {
		in, want := input{packet(500, "\x94\x04ab"), 200}, api.OK
		for i, f := range slices.Backward(list) {
			if set>>i&1 == 1 {
				f.make(&in)
				want = f.want
			}
		}
		if want == api.OK {
			parted(t, in.p, in.mtu, place{0, 176, true, 4}, place{176, 176, true, 4}, place{352, 148, false, 4})
			continue
		}
		fails(t, in.p, in.mtu, want)
	}
}

// TestFaultsOfFitting makes those sets of faults that do not matter in a packet
// that fits.
func TestFaultsOfFitting(t *testing.T) {
	list := faults()[5:]
	for set := range 1 << len(list) {
		in := input{packet(176, "\x94\x04ab"), 200}
		for i, f := range list {
			if set>>i&1 == 1 {
				f.make(&in)
			}
		}
		alone(t, in.p, in.mtu)
	}
}

// TestFields divides packets with each field at both of its ends.
func TestFields(t *testing.T) {
	for _, alter := range []func(p *api.Ip4){
		func(p *api.Ip4) { p.Tos = 0 }, func(p *api.Ip4) { p.Tos = 255 },
		func(p *api.Ip4) { p.Ttl = 0 }, func(p *api.Ip4) { p.Ttl = 255 },
		func(p *api.Ip4) { p.Proto = 0 }, func(p *api.Ip4) { p.Proto = 255 },
		func(p *api.Ip4) { p.Id = 0 }, func(p *api.Ip4) { p.Id = 65535 },
		func(p *api.Ip4) { p.Src = zeros(4) }, func(p *api.Ip4) { p.Src = "\xff\xff\xff\xff" },
		func(p *api.Ip4) { p.Dst = zeros(4) }, func(p *api.Ip4) { p.Dst = "\xff\xff\xff\xff" },
		func(p *api.Ip4) { p.Dst = p.Src },
	} {
		p := altered(packet(100, "\x07\x03\x04\x94\x04\x00\x00\x00"), alter)
		alone(t, p, 128)
		parted(t, p, 127, place{0, 96, true, 8}, place{96, 4, false, 4})
		parted(t, placed(p, 80, true), 68, place{80, 40, true, 8}, place{120, 40, true, 4}, place{160, 20, true, 4})
	}
}
