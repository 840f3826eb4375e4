package pick_test

import (
	"bytes"
	"encoding/binary"
	"math"
	"math/big"
	"slices"
	"strings"
	"testing"
	"unsafe"

	"redoubt/api"
	"redoubt/pick"
)

// Addresses of both versions, in their order.
const (
	one   = "\x0a\x00\x00\x01"
	two   = "\x0a\x00\x00\x02"
	three = "\x0a\x00\x00\x03"

	one6   = "\x20\x01\x0d\xb8\x00\x00\x00\x00\x00\x00\x00\x00\x00\x00\x00\x01"
	two6   = "\x20\x01\x0d\xb8\x00\x00\x00\x00\x00\x00\x00\x00\x00\x00\x00\x02"
	three6 = "\x20\x01\x0d\xb8\x00\x00\x00\x00\x00\x00\x00\x00\x00\x00\x00\x03"
)

// some is a string of n bytes without a plain order.
func some(n int, seed uint32) string {
	b := make([]byte, n)
	for i := range b {
		seed = seed*1664525 + 1013904223
		b[i] = byte(seed >> 24)
	}
	return string(b)
}

// with is a string with another byte at a place.
func with(s string, at int, x byte) string { return s[:at] + string([]byte{x}) + s[at+1:] }

// anyPorts is the range of all ports.
var anyPorts = api.Ports{Low: 0, High: 65535}

// all is the selector that matches every flow.
func all() api.Pick { return api.Pick{Proto: -1, Near: anyPorts, Far: anyPorts} }

// goodSpans are valid address ranges: for each version those of all addresses and
// of one, and those whose ends differ in the first byte, in the last one or, with
// a last byte that is the lower one, in another.
func goodSpans() []api.Span {
	list := []api.Span{{}, {Low: one, High: one}, {Low: one, High: three}, {Low: one6, High: one6}, {Low: one6, High: three6}}
	for _, n := range []int{4, 16} {
		zeros, ones, s := strings.Repeat("\x00", n), strings.Repeat("\xff", n), some(n, 1)
		list = append(list,
			api.Span{Low: zeros, High: ones}, api.Span{Low: zeros, High: zeros}, api.Span{Low: ones, High: ones},
			api.Span{Low: with(s, 0, 0x7f), High: with(s, 0, 0x80)},
			api.Span{Low: with(s, n-1, 0x7f), High: with(s, n-1, 0x80)},
			api.Span{Low: with(s, n-1, 9), High: with(s, n-1, 10)},
			api.Span{Low: with(with(s, 1, 0), n-1, 0xff), High: with(with(s, 1, 1), n-1, 0)},
			api.Span{Low: with(with(s, 0, 1), 1, 0xff), High: with(with(s, 0, 2), 1, 0)})
	}
	return list
}

// oddSpans are address ranges that no valid selector has.
func oddSpans() []api.Span {
	list := []api.Span{
		{Low: one, High: one6}, {Low: one6, High: one}, {Low: "\x00\x00\x00\x00", High: strings.Repeat("\xff", 16)},
		{Low: strings.Repeat("\x00", 16), High: "\xff\xff\xff\xff"},
		{Low: three, High: one}, {Low: two, High: one}, {Low: two6, High: one6},
		{Low: one, High: one[:3]}, {Low: one[:3], High: one}, {Low: one, High: one + "\x01"}, {Low: one + "\x01", High: one},
		{Low: one6, High: one6[:15]}, {Low: one6[:15], High: one6}, {Low: one6, High: one6 + "\x01"},
	}
	for _, s := range []string{one, one6, "\x00", "\x00\x00\x00\x00", strings.Repeat("\x00", 16), some(300, 2)} {
		list = append(list, api.Span{Low: s}, api.Span{High: s})
	}
	for _, n := range []int{1, 2, 3, 5, 6, 8, 15, 17, 20, 32, 64, 256, 260, 272} {
		list = append(list, api.Span{Low: some(n, 3), High: some(n, 3)}, api.Span{Low: strings.Repeat("\x00", n), High: strings.Repeat("\xff", n)})
	}
	for _, n := range []int{4, 16} {
		s := some(n, 4)
		list = append(list,
			api.Span{Low: with(s, 0, 0x80), High: with(s, 0, 0x7f)}, api.Span{Low: with(s, n-1, 0x80), High: with(s, n-1, 0x7f)},
			api.Span{Low: with(s, 0, 10), High: with(s, 0, 9)}, api.Span{Low: with(s, n-1, 10), High: with(s, n-1, 9)},
			api.Span{Low: with(with(s, 0, 2), n-1, 0), High: with(with(s, 0, 1), n-1, 0xff)})
	}
	return list
}

var (
	goodProtos = []int{-1, 0, 1, 6, 17, 50, 58, 59, 127, 128, 254, 255}
	oddProtos  = []int{-2, 256, -3, 257, -255, -256, -257, 511, 512, 65535, 65536, math.MinInt32, math.MaxInt32, math.MinInt, math.MaxInt}
	goodPorts  = []api.Ports{
		{Low: 0, High: 65535}, {Low: 0, High: 0}, {Low: 0, High: 1}, {Low: 0, High: 65534}, {Low: 1, High: 65535}, {Low: 1, High: 1},
		{Low: 53, High: 53}, {Low: 54, High: 60}, {Low: 255, High: 256}, {Low: 0, High: 255}, {Low: 256, High: 65535},
		{Low: 32767, High: 32768}, {Low: 65534, High: 65535}, {Low: 65535, High: 65535},
	}
	oddPorts = []api.Ports{
		{Low: -1, High: -1}, {Low: -1, High: 0}, {Low: -1, High: 65535}, {Low: -2, High: -1}, {Low: -1, High: -2}, {Low: 0, High: -1}, {Low: 65535, High: -1},
		{Low: 1, High: 0}, {Low: 2, High: 1}, {Low: 54, High: 53}, {Low: 256, High: 255}, {Low: 65535, High: 0}, {Low: 65535, High: 65534},
		{Low: 0, High: 65536}, {Low: 1, High: 65536}, {Low: 65535, High: 65536}, {Low: 65536, High: 65536}, {Low: 65536, High: 65535}, {Low: 65536, High: 0},
		{Low: -1, High: 65536}, {Low: 65536, High: -1}, {Low: 0, High: 131071}, {Low: -65536, High: -1}, {Low: 65536, High: 131071},
		{Low: math.MinInt, High: math.MaxInt}, {Low: math.MinInt, High: 0}, {Low: 0, High: math.MaxInt}, {Low: math.MaxInt, High: math.MinInt},
		{Low: math.MaxInt, High: math.MaxInt}, {Low: math.MinInt, High: math.MinInt}, {Low: math.MinInt32, High: 65535}, {Low: 0, High: math.MaxInt32},
	}
)

// checked fails unless Check answers an error.
func checked(t *testing.T, want api.Errno, p api.Pick) {
	t.Helper()
	if e := pick.Check(p); e != want {
		t.Errorf("P15.1: Check(%#v) = %d, not %d", p, e, want)
	}
}

// drawn is the selector that takes its fields from the lists of wrong ones where
// faults has a bit, and otherwise from those of right ones; step chooses which.
func drawn(faults int, step int) api.Pick {
	spans := [2][]api.Span{goodSpans(), oddSpans()}
	protos := [2][]int{goodProtos, oddProtos}
	ports := [2][]api.Ports{goodPorts, oddPorts}
	bit := func(i int) int { return faults >> i & 1 }
	from := func(n int, stride int) int { return (step*stride + step/7) % n }
	return api.Pick{
		Here:  spans[bit(0)][from(len(spans[bit(0)]), 1)],
		There: spans[bit(1)][from(len(spans[bit(1)]), 5)],
		Proto: protos[bit(2)][from(len(protos[bit(2)]), 3)],
		Near:  ports[bit(3)][from(len(ports[bit(3)]), 1)],
		Far:   ports[bit(4)][from(len(ports[bit(4)]), 9)],
	}
}

// TestCheckEach passes right and wrong values of each field beside right ones of
// the others.
func TestCheckEach(t *testing.T) {
	for step := range 40 {
		try := func(want api.Errno, turn func(p *api.Pick)) {
			t.Helper()
			p := drawn(0, step)
			turn(&p)
			checked(t, want, p)
		}
		for i, list := range [][]api.Span{goodSpans(), oddSpans()} {
			for _, s := range list {
				try(api.Errno(i), func(p *api.Pick) { p.Here = s })
				try(api.Errno(i), func(p *api.Pick) { p.There = s })
			}
		}
		for i, list := range [][]int{goodProtos, oddProtos} {
			for _, n := range list {
				try(api.Errno(i), func(p *api.Pick) { p.Proto = n })
			}
		}
		for i, list := range [][]api.Ports{goodPorts, oddPorts} {
			for _, r := range list {
				try(api.Errno(i), func(p *api.Pick) { p.Near = r })
				try(api.Errno(i), func(p *api.Pick) { p.Far = r })
			}
		}
	}
}

// TestCheckTogether passes selectors with every set of wrong fields.
func TestCheckTogether(t *testing.T) {
	for step := range 500 {
		checked(t, api.OK, drawn(0, step))
		for faults := 1; faults < 32; faults++ {
			checked(t, api.ErrArg, drawn(faults, step))
		}
	}
	checked(t, api.OK, api.Pick{})
	checked(t, api.OK, all())
	for n := -300; n < 600; n++ {
		p := all()
		p.Proto = n
		if n >= -1 && n <= 255 {
			checked(t, api.OK, p)
		} else {
			checked(t, api.ErrArg, p)
		}
	}
}

// TestCheckSpanLengths passes address ranges with ends of all short lengths.
func TestCheckSpanLengths(t *testing.T) {
	for low := range 40 {
		for high := range 40 {
			s := api.Span{Low: strings.Repeat("\x01", low), High: strings.Repeat("\x02", high)}
			want := api.ErrArg
			if low == high && (low == 0 || low == 4 || low == 16) {
				want = api.OK
			}
			p, q := all(), all()
			p.Here, q.There = s, s
			checked(t, want, p)
			checked(t, want, q)
		}
	}
}

// TestCheckSpanOrder lets one byte of an end of an address range be any other,
// and a later one differ the other way.
func TestCheckSpanOrder(t *testing.T) {
	for _, n := range []int{4, 16} {
		s := some(n, 5)
		for at := range n {
			for x := range 256 {
				end := with(s, at, byte(x))
				spans := []api.Span{{Low: s, High: end}}
				if end != s && at < n-1 {
					spans = append(spans, api.Span{Low: with(s, n-1, 0), High: with(end, n-1, 1)}, api.Span{Low: with(s, n-1, 1), High: with(end, n-1, 0)})
				}
				for _, span := range spans {
					p, q := all(), all()
					p.Here, q.There = span, span
					want := api.OK
					if byte(x) < s[at] {
						want = api.ErrArg
					}
					checked(t, want, p)
					checked(t, want, q)
				}
			}
		}
	}
}

// flowOf is what Of answers by the chapter's words.
func flowOf(src, dst string, proto int, data []byte, out bool) (api.Flow, api.Errno) {
	four, six := len(src) == 4 && len(dst) == 4, len(src) == 16 && len(dst) == 16
	if !four && !six || proto < 0 || proto > 255 {
		return api.Flow{}, api.ErrArg
	}
	from, to := -1, -1
	if proto == 6 || proto == 17 {
		if len(data) < 4 {
			return api.Flow{}, api.ErrMore
		}
		from, to = int(binary.BigEndian.Uint16(data)), int(binary.BigEndian.Uint16(data[2:]))
	}
	if out {
		return api.Flow{Here: src, There: dst, Proto: proto, Near: from, Far: to}, api.OK
	}
	return api.Flow{Here: dst, There: src, Proto: proto, Near: to, Far: from}, api.OK
}

// derived fails unless Of answers what it should.
func derived(t *testing.T, src, dst string, proto int, data []byte, out bool) {
	t.Helper()
	want, wrong := flowOf(src, dst, proto, data, out)
	if f, e := pick.Of(src, dst, proto, data, out); f != want || e != wrong {
		t.Errorf("P15.1: Of(%x, %x, %d, %d bytes, %v) = %#v, %d, not %#v, %d", src, dst, proto, len(data), out, f, e, want, wrong)
	}
}

// TestOf passes addresses of all short lengths beside each other, right and wrong
// protocols, and data of few bytes: which fault is told where several meet.
func TestOf(t *testing.T) {
	datas := [][]byte{nil, {}, {1}, {1, 2}, {1, 2, 3}, {0, 53, 0, 80}, {0xff, 0xfe, 0x80, 1, 7}}
	lengths := []int{32, 64, 260, 272}
	for n := range 21 {
		lengths = append(lengths, n)
	}
	for _, n := range lengths {
		for _, m := range lengths {
			for _, proto := range slices.Concat(goodProtos, oddProtos) {
				for _, data := range datas {
					derived(t, some(n, 6), some(m, 7), proto, data, true)
					derived(t, some(n, 6), some(m, 7), proto, data, false)
				}
			}
		}
	}
}

// TestOfErrors tells the named faults by their numbers.
func TestOfErrors(t *testing.T) {
	for _, x := range []struct {
		src, dst string
		proto, n int
		want     api.Errno
	}{
		{one, two, 6, 4, api.OK}, {one6, two6, 17, 4, api.OK}, {one, one, 6, 5, api.OK}, {one, two, 0, 0, api.OK}, {one6, two6, 255, 3, api.OK},
		{"", "", 6, 4, api.ErrArg}, {one, "", 6, 4, api.ErrArg}, {"", one, 6, 4, api.ErrArg},
		{one, one6, 6, 4, api.ErrArg}, {one6, one, 6, 4, api.ErrArg},
		{one[:3], two[:3], 6, 4, api.ErrArg}, {one + "\x00", two + "\x00", 6, 4, api.ErrArg}, {one6[:15], two6[:15], 17, 4, api.ErrArg}, {one6 + "\x00", two6 + "\x00", 17, 4, api.ErrArg},
		{one, two, -1, 4, api.ErrArg}, {one, two, 256, 4, api.ErrArg}, {one, two, -1, 0, api.ErrArg}, {one, two, 256, 0, api.ErrArg}, {one, two, 262, 3, api.ErrArg}, {one, two, -250, 3, api.ErrArg},
		{one, two, 6, 3, api.ErrMore}, {one, two, 17, 3, api.ErrMore}, {one6, two6, 6, 0, api.ErrMore}, {one6, two6, 17, 1, api.ErrMore},
		{one, one6, 6, 3, api.ErrArg}, {"", "", 17, 0, api.ErrArg}, {one[:3], two, 6, 0, api.ErrArg}, {one6, one, 256, 0, api.ErrArg},
	} {
		for _, out := range []bool{true, false} {
			f, e := pick.Of(x.src, x.dst, x.proto, make([]byte, x.n), out)
			if e != x.want || e != api.OK && f != (api.Flow{}) {
				t.Errorf("P15.1: Of(%x, %x, %d, %d bytes, %v) = %#v, %d, not %d", x.src, x.dst, x.proto, x.n, out, f, e, x.want)
			}
		}
	}
}

// TestOfProtos passes every protocol: only 6 and 17 have ports.
func TestOfProtos(t *testing.T) {
	for proto := range 256 {
		for n := range 6 {
			derived(t, one, two, proto, []byte(some(n, uint32(proto))), true)
			derived(t, one6, two6, proto, []byte(some(n, uint32(proto))), false)
		}
		f, e := pick.Of(two, one, proto, []byte{1, 2, 3, 4}, true)
		if ports := f.Near == 258 && f.Far == 772; ports != (proto == 6 || proto == 17) || !ports && (f.Near != -1 || f.Far != -1) || e != api.OK {
			t.Errorf("P15.1: Of protocol %d = %#v, %d", proto, f, e)
		}
	}
}

// TestOfPorts reads every port at both places, the edges beside each other, and
// ports with much behind them.
func TestOfPorts(t *testing.T) {
	read := func(from, to int, more string) {
		t.Helper()
		data := append([]byte{byte(from >> 8), byte(from), byte(to >> 8), byte(to)}, more...)
		f, e := pick.Of(one, two, 17, data, true)
		g, h := pick.Of(one, two, 6, data, false)
		if f.Near != from || f.Far != to || e != api.OK || g.Near != to || g.Far != from || h != api.OK {
			t.Errorf("P15.1: ports %d and %d are read as %#v, %d and %#v, %d", from, to, f, e, g, h)
		}
	}
	for port := range 65536 {
		read(port, 7, "")
		read(0xfffe, port, "")
	}
	edges := []int{0, 1, 127, 128, 255, 256, 32767, 32768, 65280, 65534, 65535}
	for _, from := range edges {
		for _, to := range edges {
			read(from, to, "")
			read(from, to, "\xff")
			read(from, to, some(1000, 8))
		}
	}
	read(1, 2, some(1<<17, 9))
}

// flows are of all kinds, those that no packet has among them.
func flows() []api.Flow {
	var list []api.Flow
	hosts := []string{"", "a", one, three, "\x00\x00\x00\x00", "\xff\xff\xff\xff", one + "\x00", one6, three6, some(300, 10)}
	numbers := []int{-1, 0, 6, 17, 53, 255, 65535, 65536, -2, math.MinInt, math.MaxInt}
	for i, here := range hosts {
		for j, there := range hosts {
			for k := range numbers {
				at := func(n int) int { return numbers[n%len(numbers)] }
				list = append(list, api.Flow{Here: here, There: there, Proto: at(i + k), Near: at(j + 3*k), Far: at(i + 5*k + 1)})
			}
		}
	}
	return list
}

// TestTurned turns flows, and turns them back.
func TestTurned(t *testing.T) {
	for _, f := range flows() {
		g := pick.Turned(f)
		if g.Here != f.There || g.There != f.Here || g.Proto != f.Proto || g.Near != f.Far || g.Far != f.Near {
			t.Errorf("P15.1: Turned(%#v) = %#v", f, g)
		}
		if h := pick.Turned(g); h != f {
			t.Errorf("P15.3: Turned twice: %#v is %#v", f, h)
		}
	}
}

// matched fails unless Matches answers as it should.
func matched(t *testing.T, want bool, p api.Pick, f api.Flow) {
	t.Helper()
	if got := pick.Matches(p, f); got != want {
		t.Errorf("P15.2: Matches(%#v, %#v) = %v", p, f, got)
	}
}

// TestExamples holds the calls against the chapter's examples.
func TestExamples(t *testing.T) {
	f, e := pick.Of(one, two, 17, []byte{0, 0x35, 0, 0x50}, true)
	if f != (api.Flow{Here: one, There: two, Proto: 17, Near: 53, Far: 80}) || e != api.OK {
		t.Errorf("P15.1: %#v, %d", f, e)
	}
	matched(t, true, all(), f)
	p := all()
	p.Proto, p.Near = 17, api.Ports{Low: 53, High: 53}
	matched(t, true, p, f)
	p = all()
	p.Near = api.Ports{Low: 54, High: 60}
	matched(t, false, p, f)
}

// hosts are strings at, just before and just after the ends of address ranges,
// with a byte more or less, and none of these.
func hosts() []string {
	list := []string{"", "a", "\x00", some(3, 11), some(4, 11), some(5, 11), some(16, 11), some(17, 11), some(300, 11)}
	for _, s := range goodSpans() {
		for _, end := range []string{s.Low, s.High} {
			if end == "" {
				continue
			}
			list = append(list, end, end[1:], end[:len(end)-1], end+"\x00", "\x00"+end, end+end)
			for at := range end {
				list = append(list, with(end, at, end[at]-1), with(end, at, end[at]+1), with(end, at, 0), with(end, at, 0xff))
			}
		}
	}
	slices.Sort(list)
	return slices.Compact(list)
}

// value is the number that bytes tell.
func value(s string) *big.Int { return new(big.Int).SetBytes([]byte(s)) }

// spanned tells by numbers whether a string is in a valid address range.
func spanned(a string, s api.Span) bool {
	if s.Low == "" {
		return true
	}
	return len(a) == len(s.Low) && value(s.Low).Cmp(value(a)) <= 0 && value(a).Cmp(value(s.High)) <= 0
}

// TestMatchesSpans passes strings of all kinds to each address range, on either
// side.
func TestMatchesSpans(t *testing.T) {
	for _, s := range goodSpans() {
		here, there := all(), all()
		here.Here, there.There = s, s
		for _, a := range hosts() {
			matched(t, spanned(a, s), here, api.Flow{Here: a, There: one})
			matched(t, spanned(a, s), there, api.Flow{Here: one6, There: a})
		}
	}
}

// TestMatchesEnds tells by hand which strings are in an address range.
func TestMatchesEnds(t *testing.T) {
	wide := api.Span{Low: "\x0a\x00\x05\x00", High: "\x0a\x01\x02\x00"}
	wide6 := api.Span{Low: with(one6, 15, 0x7f), High: with(one6, 15, 0x81)}
	for _, x := range []struct {
		span api.Span
		a    string
		want bool
	}{
		{wide, "\x0a\x00\x05\x00", true}, {wide, "\x0a\x01\x02\x00", true}, {wide, "\x0a\x00\x05\x01", true}, {wide, "\x0a\x01\x01\xff", true},
		{wide, "\x0a\x00\xff\xff", true}, {wide, "\x0a\x01\x00\x00", true}, {wide, "\x0a\x00\x04\xff", false}, {wide, "\x0a\x01\x02\x01", false},
		{wide, "\x0a\x00\x00\x00", false}, {wide, "\x0a\x02\x00\x00", false}, {wide, "\x09\xff\xff\xff", false}, {wide, "\x0b\x00\x06\x00", false},
		{wide, "\x00\x00\x00\x00", false}, {wide, "\xff\xff\xff\xff", false}, {wide, "\x8a\x00\x06\x00", false}, {wide, "", false},
		{wide, "\x0a\x00\x06", false}, {wide, "\x0a\x00\x06\x00\x00", false}, {wide, "\x0a\x00\x06\x00" + one6[4:], false}, {wide, one6, false},
		{wide6, with(one6, 15, 0x7e), false}, {wide6, with(one6, 15, 0x7f), true}, {wide6, with(one6, 15, 0x80), true}, {wide6, with(one6, 15, 0x81), true}, {wide6, with(one6, 15, 0x82), false},
		{wide6, with(with(one6, 15, 0x80), 0, 0x21), false}, {wide6, with(with(one6, 15, 0x80), 0, 0x1f), false}, {wide6, with(one6, 15, 0x80)[:15], false}, {wide6, with(one6, 15, 0x80) + "\x00", false}, {wide6, one6[:4], false}, {wide6, "", false},
		{api.Span{}, "", true}, {api.Span{}, one, true}, {api.Span{}, one6, true}, {api.Span{}, "a", true}, {api.Span{}, some(1000, 12), true},
	} {
		p, q := all(), all()
		p.Here, q.There = x.span, x.span
		matched(t, x.want, p, api.Flow{Here: x.a, There: "b"})
		matched(t, x.want, q, api.Flow{Here: "b", There: x.a})
	}
}

// ported tells by a list of its numbers whether a port is in a valid range.
func ported(port int, r api.Ports) bool {
	if port < 0 {
		return r == anyPorts
	}
	for n := r.Low; n <= r.High; n++ {
		if n == port {
			return true
		}
	}
	return false
}

// TestMatchesPorts passes ports of all kinds to each range, on either side.
func TestMatchesPorts(t *testing.T) {
	list := []int{-1, -2, -53, -65535, -65536, math.MinInt32, math.MinInt, 65536, 65537, 65536 + 53, 131071, math.MaxInt32, math.MaxInt}
	for _, r := range goodPorts {
		list = append(list, r.Low, r.High, r.Low-1, r.High+1, r.Low+1, r.High-1)
	}
	for _, r := range goodPorts {
		near, far := all(), all()
		near.Near, far.Far = r, r
		for _, port := range list {
			want := ported(port, r)
			matched(t, want, near, api.Flow{Near: port, Far: 9})
			matched(t, want, near, api.Flow{Near: port, Far: -1})
			matched(t, want, far, api.Flow{Near: 9, Far: port})
			matched(t, want, far, api.Flow{Near: -1, Far: port})
		}
	}
}

// TestMatchesNoPort tells by hand where a port that is none, or too great, is in.
func TestMatchesNoPort(t *testing.T) {
	for _, x := range []struct {
		port, low, high int
		want            bool
	}{
		{-1, 0, 65535, true}, {-2, 0, 65535, true}, {math.MinInt, 0, 65535, true},
		{-1, 0, 65534, false}, {-1, 1, 65535, false}, {-1, 0, 0, false}, {-1, 65535, 65535, false}, {-2, 0, 65534, false},
		{65536, 0, 65535, false}, {math.MaxInt, 0, 65535, false}, {65536, 65535, 65535, false}, {131071, 0, 65535, false},
		{0, 0, 65535, true}, {65535, 0, 65535, true}, {0, 0, 0, true}, {65535, 65535, 65535, true}, {255, 256, 256, false}, {256, 255, 255, false},
	} {
		p, q := all(), all()
		p.Near, q.Far = api.Ports{Low: x.low, High: x.high}, api.Ports{Low: x.low, High: x.high}
		matched(t, x.want, p, api.Flow{Near: x.port})
		matched(t, x.want, q, api.Flow{Far: x.port})
	}
}

// TestMatchesProtos passes every protocol of a selector beside those of flows,
// those that no packet has among them.
func TestMatchesProtos(t *testing.T) {
	list := slices.Concat(goodProtos, oddProtos)
	for proto := -1; proto < 256; proto++ {
		p := all()
		p.Proto = proto
		for _, other := range append(list, proto-1, proto+1, proto+256, proto-256) {
			matched(t, proto == -1 || proto == other, p, api.Flow{Proto: other, Near: -1, Far: -1})
		}
		matched(t, true, p, api.Flow{Proto: proto, Near: 5, Far: 6})
	}
}

// TestMatchesTogether lets every set of a flow's fields lie outside a selector.
func TestMatchesTogether(t *testing.T) {
	p := api.Pick{
		Here: api.Span{Low: one, High: two}, There: api.Span{Low: one6, High: two6}, Proto: 17,
		Near: api.Ports{Low: 10, High: 20}, Far: api.Ports{Low: 30, High: 40},
	}
	for misses := range 32 {
		f := api.Flow{Here: two, There: one6, Proto: 17, Near: 10, Far: 40}
		for i, turn := range []func(){func() { f.Here = three }, func() { f.There = three6 }, func() { f.Proto = 6 }, func() { f.Near = 9 }, func() { f.Far = 41 }} {
			if misses>>i&1 == 1 {
				turn()
			}
		}
		matched(t, misses == 0, p, f)
		// The sides are not to be taken for each other.
		matched(t, false, p, pick.Turned(f))
	}
}

// TestMatchesWords holds drawn selectors and flows against the chapter's words.
func TestMatchesWords(t *testing.T) {
	count := 0
	for step := range 300 {
		p := drawn(0, step)
		for _, f := range flows() {
			want := spanned(f.Here, p.Here) && spanned(f.There, p.There) && (p.Proto == -1 || p.Proto == f.Proto) && ported(f.Near, p.Near) && ported(f.Far, p.Far)
			matched(t, want, p, f)
			if want {
				count++
			}
		}
	}
	if count == 0 {
		t.Error("P15.2: nothing was to match")
	}
}

// TestMatchesOddEach passes selectors with one wrong field to flows that lie in
// all others, and in the wrong one if it were taken as it stands.
func TestMatchesOddEach(t *testing.T) {
	none := func(f api.Flow, turn func(p *api.Pick)) {
		t.Helper()
		p := all()
		turn(&p)
		matched(t, false, p, f)
	}
	for _, s := range oddSpans() {
		for _, a := range []string{s.Low, s.High, "", one, two, three, one6, two6, strings.Repeat("\x80", len(s.Low)), strings.Repeat("\x80", len(s.High))} {
			none(api.Flow{Here: a, There: one}, func(p *api.Pick) { p.Here = s })
			none(api.Flow{Here: one, There: a}, func(p *api.Pick) { p.There = s })
		}
	}
	for _, proto := range oddProtos {
		none(api.Flow{Proto: proto}, func(p *api.Pick) { p.Proto = proto })
		none(api.Flow{Proto: -1}, func(p *api.Pick) { p.Proto = proto })
	}
	for _, r := range oddPorts {
		for _, port := range []int{r.Low, r.High, -1, -2, 0, 1, 53, 65535, 65536, math.MinInt, math.MaxInt} {
			none(api.Flow{Near: port, Far: 1}, func(p *api.Pick) { p.Near = r })
			none(api.Flow{Near: 1, Far: port}, func(p *api.Pick) { p.Far = r })
		}
	}
}

// TestMatchesOddTogether passes selectors with every set of wrong fields.
func TestMatchesOddTogether(t *testing.T) {
	for step := range 30 {
		for faults := 1; faults < 32; faults++ {
			p := drawn(faults, step)
			matched(t, false, p, api.Flow{Here: p.Here.Low, There: p.There.Low, Proto: p.Proto, Near: p.Near.Low, Far: p.Far.Low})
			matched(t, false, p, api.Flow{Here: p.Here.High, There: p.There.High, Proto: p.Proto, Near: p.Near.High, Far: p.Far.High})
			matched(t, false, p, api.Flow{Proto: p.Proto, Near: -1, Far: -1})
		}
	}
}

// TestAnswers holds the flow of a packet that comes in against that of its answer
// that goes out.
func TestAnswers(t *testing.T) {
	for _, ends := range [][2]string{{one, two}, {two, one}, {one, one}, {one6, two6}, {three6, one6}, {some(4, 13), some(4, 14)}, {some(16, 15), some(16, 16)}} {
		for proto := range 256 {
			for n := range 20 {
				data := []byte(some(4+n, uint32(proto)))
				answer := append([]byte{data[2], data[3], data[0], data[1]}, some(n/2, 17)...)
				came, e := pick.Of(ends[0], ends[1], proto, data, false)
				goes, f := pick.Of(ends[1], ends[0], proto, answer, true)
				if came != goes || e != api.OK || f != api.OK {
					t.Errorf("P15.3: %#v, %d comes in, %#v, %d goes out", came, e, goes, f)
				}
				left, e := pick.Of(ends[0], ends[1], proto, data, true)
				if left != pick.Turned(came) || e != api.OK {
					t.Errorf("P15.3: %#v, %d goes out, %#v comes in", left, e, came)
				}
			}
		}
	}
}

// lower is an address that is one less, higher one that is one more; the first
// and the last stay.
func lower(a string) string  { return moved(a, -1) }
func higher(a string) string { return moved(a, 1) }

func moved(a string, by int64) string {
	n := value(a)
	n.Add(n, big.NewInt(by))
	if n.Sign() < 0 || n.BitLen() > 8*len(a) {
		return a
	}
	return string(n.FillBytes(make([]byte, len(a))))
}

// widerSpans are address ranges that hold all that one does.
func widerSpans(s api.Span) []api.Span {
	if s.Low == "" {
		return []api.Span{s}
	}
	zeros, ones := strings.Repeat("\x00", len(s.Low)), strings.Repeat("\xff", len(s.Low))
	return []api.Span{
		s, {}, {Low: zeros, High: ones}, {Low: zeros, High: s.High}, {Low: s.Low, High: ones},
		{Low: lower(s.Low), High: s.High}, {Low: s.Low, High: higher(s.High)}, {Low: lower(s.Low), High: higher(s.High)},
	}
}

// widerPorts are port ranges that hold all that one does.
func widerPorts(r api.Ports) []api.Ports {
	low, high := max(r.Low-1, 0), min(r.High+1, 65535)
	return []api.Ports{r, anyPorts, {Low: 0, High: r.High}, {Low: r.Low, High: 65535}, {Low: low, High: r.High}, {Low: r.Low, High: high}, {Low: low, High: high}}
}

// wider are selectors with one range widened, and with several.
func wider(p api.Pick) []api.Pick {
	var list []api.Pick
	here, there, near, far := widerSpans(p.Here), widerSpans(p.There), widerPorts(p.Near), widerPorts(p.Far)
	for i := range 8 {
		h, o, n, f := here[i%len(here)], there[i%len(there)], near[i%len(near)], far[i%len(far)]
		list = append(list,
			api.Pick{Here: h, There: p.There, Proto: p.Proto, Near: p.Near, Far: p.Far},
			api.Pick{Here: p.Here, There: o, Proto: p.Proto, Near: p.Near, Far: p.Far},
			api.Pick{Here: p.Here, There: p.There, Proto: p.Proto, Near: n, Far: p.Far},
			api.Pick{Here: p.Here, There: p.There, Proto: p.Proto, Near: p.Near, Far: f},
			api.Pick{Here: p.Here, There: p.There, Proto: -1, Near: p.Near, Far: p.Far},
			api.Pick{Here: h, There: there[(i+3)%len(there)], Proto: p.Proto, Near: near[(i+5)%len(near)], Far: f},
			api.Pick{Here: h, There: o, Proto: -1, Near: n, Far: f})
	}
	return list
}

// TestWidened widens selectors that match flows.
func TestWidened(t *testing.T) {
	count := 0
	for step := range 500 {
		p := drawn(0, step)
		for i, near := range []int{p.Near.Low, p.Near.High, (p.Near.Low + p.Near.High) / 2, -1} {
			for _, proto := range []int{p.Proto, 6} {
				f := api.Flow{Here: p.Here.Low, There: p.There.High, Proto: proto, Near: near, Far: p.Far.High}
				if i%2 == 1 {
					f.Here, f.There, f.Far = p.Here.High, p.There.Low, p.Far.Low
				}
				if !pick.Matches(p, f) {
					continue
				}
				count++
				for _, q := range wider(p) {
					if !pick.Matches(q, f) {
						t.Errorf("P15.3: %#v matches %#v, and the wider %#v does not", p, f, q)
					}
				}
			}
		}
	}
	if count < 1000 {
		t.Errorf("P15.3: only %d flows matched", count)
	}
}

// TestArguments holds data, and what lies behind it, against what it was, and
// alters it to see that no result goes with it.
func TestArguments(t *testing.T) {
	for n := range 12 {
		for _, out := range []bool{true, false} {
			for _, proto := range []int{1, 6, 17, 256} {
				room := []byte(some(40, uint32(n)))
				kept := slices.Clone(room)
				want, wrong := flowOf(one, two, proto, kept[:n], out)
				f, e := pick.Of(one, two, proto, room[:n], out)
				if !bytes.Equal(room, kept) {
					t.Fatalf("P15.1: data of %d bytes, or what lies behind it, is altered", n)
				}
				clear(room)
				if f != want || e != wrong {
					t.Errorf("P15.1: Of %d bytes = %#v, %d, not %#v, %d", n, f, e, want, wrong)
				}
			}
		}
	}
}

// TestAddressesAreNew holds where the addresses of a result lie against where
// those that were passed lie.
func TestAddressesAreNew(t *testing.T) {
	shared := func(f api.Flow, list ...string) bool {
		for _, s := range list {
			if p := unsafe.StringData(s); p == unsafe.StringData(f.Here) || p == unsafe.StringData(f.There) {
				return true
			}
		}
		return unsafe.StringData(f.Here) == unsafe.StringData(f.There)
	}
	for _, ends := range [][2]string{{some(4, 18), some(4, 19)}, {some(16, 18), some(16, 19)}} {
		for _, out := range []bool{true, false} {
			f, _ := pick.Of(ends[0], ends[1], 1, nil, out)
			if shared(f, ends[0], ends[1]) {
				t.Errorf("P15.1: Of(.., %v) shares memory with an argument", out)
			}
			if g := pick.Turned(f); shared(g, f.Here, f.There) {
				t.Error("P15.1: Turned shares memory with its argument")
			}
			same, _ := pick.Of(ends[0], ends[0], 1, nil, out)
			if shared(same, ends[0]) {
				t.Errorf("P15.1: Of(.., %v) of one address shares memory", out)
			}
		}
	}
}
