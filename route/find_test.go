package route_test

import (
	"slices"
	"strings"
	"testing"

	"redoubt/api"
	"redoubt/route"
)

// shuffled are the same routes in an order that the dice choose.
func shuffled(d *dice, list []api.Route) []api.Route {
	list = slices.Clone(list)
	for i := range list {
		j := i + d.under(len(list)-i)
		list[i], list[j] = list[j], list[i]
	}
	return list
}

// nested are routes to prefixes of one address, with each number of bits from
// low to high.
func nested(a string, low int, high int) []api.Route {
	var list []api.Route
	for bits := low; bits <= high; bits++ {
		list = append(list, through(cleared(a, bits), bits, 1000+bits))
	}
	return list
}

// found fails unless Find answers a route.
func found(t *testing.T, x *route.Table, dst string, want api.Route) {
	t.Helper()
	if r, e := x.Find(dst); r != want || e != api.OK {
		t.Errorf("P18.2: Find(%q) = %#v, %d, not %#v", dst, r, e, want)
	}
}

// lost fails unless Find answers an error and nothing else.
func lost(t *testing.T, x *route.Table, dst string, want api.Errno) {
	t.Helper()
	if r, e := x.Find(dst); r != (api.Route{}) || e != want {
		t.Errorf("P18.2: Find(%q) = %#v, %d, not %d", dst, r, e, want)
	}
}

// TestFindLengths asks tables without routes, with routes to everything, and with
// 64 routes for what is an address and what is not.
func TestFindLengths(t *testing.T) {
	lengths := []int{64, 255, 256, 260, 272, 65540, 65552}
	for n := range 40 {
		lengths = append(lengths, n)
	}
	tables := []*pair{fresh(t), fresh(t, through(zero4, 0, 1), through(zero6, 0, 2)), fresh(t, many(64)...)}
	for _, n := range lengths {
		for _, p := range tables {
			for _, dst := range []string{some(n, 1), strings.Repeat("\x00", n), strings.Repeat("\xff", n)} {
				if e := p.find(dst); e == api.ErrArg != (n != 4 && n != 16) {
					t.Errorf("P18.2: Find of %d bytes = %d", n, e)
				}
			}
		}
	}
}

// TestFindNone asks for addresses that no prefix contains.
func TestFindNone(t *testing.T) {
	x := fresh(t, through(ten4, 8, 1), through(ten4, 16, 2), through(ones4, 32, 3), through(doc6, 32, 4), through(ones6, 128, 5)).x
	for _, dst := range []string{"\x0b\x01\x02\x03", "\x09\xff\xff\xff", zero4, "\x20\x01\x0d\xb8", flipped(ones4, 31), flipped(ones4, 0), flipped(doc6, 31), flipped(doc6, 0), zero6, flipped(ones6, 127), ten4 + zero6[4:], ten4 + zero6[4:12] + ten4, zero6[4:] + ten4, ones4 + ones6[4:15] + "\xfe"} {
		lost(t, x, dst, api.ErrRoute)
	}
}

// TestFindBits asks for addresses that share more and more bits with the one that
// single routes of all numbers of bits are to.
func TestFindBits(t *testing.T) {
	for _, a := range []string{zero4, ten4, ones4, zero6, doc6, ones6} {
		size := 8 * len(a)
		for bits := range size + 1 {
			x := route.New()
			if e := x.Add(through(a, bits, 7)); e != api.OK {
				t.Fatalf("P18.1: Add = %d", e)
			}
			want := through(cleared(a, bits), bits, 7)
			found(t, x, a, want)
			for bit := range size {
				if bit < bits {
					lost(t, x, flipped(a, bit), api.ErrRoute)
				} else {
					found(t, x, flipped(a, bit), want)
				}
			}
		}
	}
}

// TestFindNested asks tables with prefixes of one address of all numbers of bits
// for addresses that leave it at each bit.
func TestFindNested(t *testing.T) {
	d := &dice{1}
	for _, a := range []string{zero4, ten4, ones4, zero6, doc6, ones6} {
		size := 8 * len(a)
		for low := 0; low <= size; low += 32 {
			high := min(low+63, size)
			rising := nested(a, low, high)
			falling := slices.Clone(rising)
			slices.Reverse(falling)
			for _, list := range [][]api.Route{rising, falling, shuffled(d, rising), shuffled(d, rising)} {
				x := fresh(t, list...).x
				found(t, x, a, rising[high-low])
				for bit := range size {
					if bit < low { // the routes' prefixes all have this bit
						lost(t, x, flipped(a, bit), api.ErrRoute)
					} else {
						found(t, x, flipped(a, bit), rising[min(bit, high)-low])
					}
				}
			}
		}
	}
}

// TestFindBeside asks for addresses in prefixes that stand beside each other and
// within greater ones, some of which end before the address.
func TestFindBeside(t *testing.T) {
	wide := through("\x0a\x00\x00\x00", 8, 1)
	low, high := through("\x0a\x00\x00\x00", 9, 2), through("\x0a\x80\x00\x00", 9, 3)
	host, last := through("\x0a\x7f\xff\xff", 32, 4), through("\x0a\xff\xff\xff", 32, 5)
	net := through("\x0a\x7f\x00\x00", 16, 6)
	d := &dice{2}
	for range 50 {
		x := fresh(t, shuffled(d, []api.Route{wide, low, high, host, last, net})...).x
		found(t, x, "\x0a\x00\x00\x00", low)
		found(t, x, "\x0a\x7e\xff\xff", low)
		found(t, x, "\x0a\x7f\x00\x00", net)
		found(t, x, "\x0a\x7f\xff\xfe", net)
		found(t, x, "\x0a\x7f\xff\xff", host)
		found(t, x, "\x0a\x80\x00\x00", high)
		found(t, x, "\x0a\xff\xff\xfe", high)
		found(t, x, "\x0a\xff\xff\xff", last)
		lost(t, x, "\x09\xff\xff\xff", api.ErrRoute)
		lost(t, x, "\x0b\x00\x00\x00", api.ErrRoute)
		x.Remove(low.To)
		x.Remove(high.To)
		found(t, x, "\x0a\x00\x00\x00", wide)
		found(t, x, "\x0a\x80\x00\x00", wide)
		found(t, x, "\x0a\x7f\xff\xfe", net)
		x.Remove(wide.To)
		lost(t, x, "\x0a\x80\x00\x00", api.ErrRoute)
		found(t, x, "\x0a\x7f\xff\xff", host)
		x.Remove(host.To)
		found(t, x, "\x0a\x7f\xff\xff", net)
	}
}

// TestFindWhole asks for what is in the way of both versions: fields that do not
// decide which route is found.
func TestFindWhole(t *testing.T) {
	d := &dice{3}
	near := by("\x0a\x01\x02\x00", 24, "\x00\x00\x00\x00", 0)
	far := by("\x0a\x01\x00\x00", 16, ones4, 9)
	all := by(zero4, 0, "", 1000)
	near6 := by(doc6[:8]+zero6[8:], 64, zero6, 0)
	far6 := by(doc6[:2]+zero6[2:], 16, ones6, 9)
	all6 := by(zero6, 0, "", 1000)
	for range 50 {
		x := fresh(t, shuffled(d, []api.Route{near, far, all, near6, far6, all6})...).x
		found(t, x, "\x0a\x01\x02\xff", near)
		found(t, x, "\x0a\x01\x03\x00", far)
		found(t, x, "\x0a\x02\x02\x00", all)
		found(t, x, doc6, near6)
		found(t, x, flipped(doc6, 16), far6)
		found(t, x, flipped(doc6, 15), all6)
	}
}

// TestFindAsksOnly asks many times, which alters nothing.
func TestFindAsksOnly(t *testing.T) {
	p, d := fresh(t, many(64)...), &dice{4}
	p.add(through(many(1)[0].To.Addr, 8, 3))
	for range 3000 {
		p.find(some([]int{0, 4, 4, 5, 16, 16}[d.under(6)], uint64(d.under(500))))
	}
	p.same()
}

// TestListOrder lists routes of both versions whose addresses are equal, or differ
// in one byte, added in any order.
func TestListOrder(t *testing.T) {
	want := []api.Route{
		through(zero4, 0, 1), through(zero4, 1, 2), through(zero4, 8, 3), through(zero4, 9, 4), through(zero4, 10, 5), through(zero4, 32, 6),
		through("\x00\x00\x00\x01", 32, 7), through("\x00\x00\x01\x00", 24, 8), through("\x00\x00\x01\x00", 32, 1),
		through("\x01\x00\x00\x00", 8, 2), through("\x7f\x00\x00\x00", 8, 3), through("\x7f\xff\xff\xff", 32, 4),
		through("\x80\x00\x00\x00", 1, 5), through("\x80\x00\x00\x00", 2, 6), through("\xff\x00\x00\x00", 8, 7), through(ones4, 32, 8),
		through(zero6, 0, 1), through(zero6, 9, 2), through(zero6, 10, 3), through(zero6, 99, 4), through(zero6, 100, 5), through(zero6, 128, 6),
		through(zero6[1:]+"\x01", 128, 7), through(zero6[1:]+"\x80", 121, 8), through("\x01"+zero6[1:], 8, 1), through("\x01"+zero6[1:], 128, 2),
		through("\x7f"+zero6[1:], 8, 3), through("\x80"+zero6[1:], 1, 4), through("\xff"+zero6[1:], 8, 5), through(ones6, 128, 6),
	}
	back := slices.Clone(want)
	slices.Reverse(back)
	d, orders := &dice{5}, [][]api.Route{want, back}
	for range 100 {
		orders = append(orders, shuffled(d, want))
	}
	for _, list := range orders {
		x := route.New()
		for _, r := range list {
			if e := x.Add(r); e != api.OK {
				t.Fatalf("P18.1: Add(%#v) = %d", r, e)
			}
		}
		if got := x.List(); !slices.Equal(got, want) {
			t.Fatalf("P18.1: List() = %#v, not %#v", got, want)
		}
	}
}

// TestListEvery lists each choice of some routes in each order.
func TestListEvery(t *testing.T) {
	routes := []api.Route{through(zero4, 0, 1), through("\x80\x00\x00\x00", 1, 2), through("\x80\x00\x00\x00", 32, 3), through(zero6, 0, 4), through("\x80"+zero6[1:], 1, 5)}
	var walk func(list []api.Route)
	walk = func(list []api.Route) {
		fresh(t, list...).same()
		for _, r := range routes {
			if !slices.Contains(list, r) {
				walk(append(slices.Clone(list), r))
			}
		}
	}
	walk(nil)
}

// TestNil calls all methods of a table that is nil, with what is right and what
// is wrong.
func TestNil(t *testing.T) {
	var x *route.Table
	for range 2 {
		everyRoute(func(r api.Route) {
			if e := x.Add(r); e != api.ErrNil {
				t.Fatalf("P18.1: Add(%#v) to nil = %d", r, e)
			}
			if e := x.Remove(r.To); e != api.ErrNil {
				t.Fatalf("P18.1: Remove(%#v) from nil = %d", r.To, e)
			}
		})
		for n := range 40 {
			lost(t, x, some(n, 1), api.ErrNil)
		}
		if list := x.List(); len(list) != 0 {
			t.Errorf("P18.1: List() of nil = %#v", list)
		}
	}
}
