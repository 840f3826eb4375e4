package route_test

import (
	"math"
	"slices"
	"strings"
	"testing"

	"redoubt/api"
	"redoubt/route"
)

// Addresses of both versions.
const (
	zero4 = "\x00\x00\x00\x00"
	ten4  = "\x0a\x01\x02\x03"
	ones4 = "\xff\xff\xff\xff"

	zero6 = "\x00\x00\x00\x00\x00\x00\x00\x00\x00\x00\x00\x00\x00\x00\x00\x00"
	doc6  = "\x20\x01\x0d\xb8\x00\x01\x02\x03\x04\x05\x06\x07\x08\x09\x0a\x0b"
	ones6 = "\xff\xff\xff\xff\xff\xff\xff\xff\xff\xff\xff\xff\xff\xff\xff\xff"
)

// dice are numbers without a plain order, the same in each run.
type dice struct{ seed uint64 }

// under is a number from 0 to n - 1.
func (d *dice) under(n int) int {
	d.seed = d.seed*6364136223846793005 + 1442695040888963407
	return int(d.seed >> 33 % uint64(n))
}

// once is true once in n times.
func (d *dice) once(n int) bool { return d.under(n) == 0 }

// some is a string of n bytes without a plain order.
func some(n int, seed uint64) string {
	d, b := dice{seed}, make([]byte, n)
	for i := range b {
		b[i] = byte(d.under(256))
	}
	return string(b)
}

// to is a prefix.
func to(a string, bits int) api.Prefix { return api.Prefix{Addr: a, Bits: bits} }

// through is a route through a port, by way of nothing.
func through(a string, bits int, port int) api.Route {
	return api.Route{To: to(a, bits), Port: port}
}

// by is a route by way of an address.
func by(a string, bits int, via string, port int) api.Route {
	return api.Route{To: to(a, bits), Via: via, Port: port}
}

// digits are the bits of a string as a text of zeros and ones.
func digits(a string) string {
	out := make([]byte, 8*len(a))
	for i := range out {
		out[i] = '0' + a[i/8]>>(7-i%8)&1
	}
	return string(out)
}

// flipped is an address with one bit altered.
func flipped(a string, bit int) string {
	b := []byte(a)
	b[bit/8] ^= 0x80 >> (bit % 8)
	return string(b)
}

// cleared is an address with all bits behind the first ones cleared, one by one.
func cleared(a string, bits int) string {
	b := []byte(a)
	for i := bits; i < 8*len(b); i++ {
		b[i/8] &^= 0x80 >> (i % 8)
	}
	return string(b)
}

// isPrefix tells whether a prefix has a Mask.
func isPrefix(p api.Prefix) bool {
	switch len(p.Addr) {
	case 4:
		return p.Bits >= 0 && p.Bits <= 32
	case 16:
		return p.Bits >= 0 && p.Bits <= 128
	}
	return false
}

// may tells, by the chapter's words, whether a route is valid.
func may(r api.Route) bool {
	return isPrefix(r.To) && (r.Via == "" || len(r.Via) == len(r.To.Addr)) && r.Port >= 0
}

// holds tells whether a route's prefix contains an address.
func holds(r api.Route, dst string) bool {
	return len(dst) == len(r.To.Addr) && strings.HasPrefix(digits(dst), digits(r.To.Addr)[:r.To.Bits])
}

// model is what a table must know, by the chapter's words. Its routes are in no
// order.
type model struct{ routes []api.Route }

// at is where the route with a prefix that has a Mask is, or -1.
func (m *model) at(p api.Prefix) int {
	return slices.IndexFunc(m.routes, func(r api.Route) bool { return r.To == to(cleared(p.Addr, p.Bits), p.Bits) })
}

// add is what Add must answer, and takes the route in.
func (m *model) add(r api.Route) api.Errno {
	if !may(r) {
		return api.ErrArg
	}
	at := m.at(r.To)
	r.To.Addr = cleared(r.To.Addr, r.To.Bits)
	switch {
	case at >= 0:
		m.routes[at] = r
	case len(m.routes) == 64:
		return api.ErrFull
	default:
		m.routes = append(m.routes, r)
	}
	return api.OK
}

// remove is what Remove must answer, and takes the route out.
func (m *model) remove(p api.Prefix) api.Errno {
	if !isPrefix(p) || m.at(p) < 0 {
		return api.ErrNone
	}
	m.routes = slices.Delete(m.routes, m.at(p), m.at(p)+1)
	return api.OK
}

// find is what Find must answer.
func (m *model) find(dst string) (api.Route, api.Errno) {
	if len(dst) != 4 && len(dst) != 16 {
		return api.Route{}, api.ErrArg
	}
	best, e := api.Route{}, api.ErrRoute
	for _, r := range m.routes {
		if holds(r, dst) && (e != api.OK || r.To.Bits > best.To.Bits) {
			best, e = r, api.OK
		}
	}
	return best, e
}

// list is what List must answer.
func (m *model) list() []api.Route {
	list := slices.Clone(m.routes)
	slices.SortFunc(list, func(a, b api.Route) int {
		switch {
		case len(a.To.Addr) != len(b.To.Addr):
			return len(a.To.Addr) - len(b.To.Addr)
		case a.To.Addr != b.To.Addr:
			return strings.Compare(a.To.Addr, b.To.Addr)
		}
		return a.To.Bits - b.To.Bits
	})
	return list
}

// pair is a table and what it must be.
type pair struct {
	*testing.T
	x *route.Table
	m *model
}

// fresh is a table with some routes.
func fresh(t *testing.T, routes ...api.Route) *pair {
	t.Helper()
	p := &pair{t, route.New(), &model{}}
	if p.x == nil {
		t.Fatal("P18.1: New() = nil")
	}
	for _, r := range routes {
		p.add(r)
	}
	return p
}

// add, remove, find and listed ask the table, and fail unless it answers what it
// must.
func (p *pair) add(r api.Route) api.Errno {
	p.Helper()
	e, want := p.x.Add(r), p.m.add(r)
	if e != want {
		p.Fatalf("P18.1: Add(%#v) to %d routes = %d, not %d", r, len(p.m.routes), e, want)
	}
	return e
}

func (p *pair) remove(q api.Prefix) api.Errno {
	p.Helper()
	n := len(p.m.routes)
	e, want := p.x.Remove(q), p.m.remove(q)
	if e != want {
		p.Fatalf("P18.1: Remove(%#v) from %d routes = %d, not %d", q, n, e, want)
	}
	return e
}

func (p *pair) find(dst string) api.Errno {
	p.Helper()
	want, wrong := p.m.find(dst)
	r, e := p.x.Find(dst)
	if r != want || e != wrong {
		p.Errorf("P18.2: Find(%q) = %#v, %d, not %#v, %d", dst, r, e, want, wrong)
	}
	return e
}

func (p *pair) listed() {
	p.Helper()
	if list, want := p.x.List(), p.m.list(); !slices.Equal(list, want) {
		p.Fatalf("P18.1: List() = %#v, not %#v", list, want)
	}
}

// same asks for all that can be seen of the table: for its routes, and for the
// first and the last address of each prefix and those beside them.
func (p *pair) same() {
	p.Helper()
	p.listed()
	for _, dst := range []string{zero4, ten4, ones4, zero6, doc6, ones6} {
		p.find(dst)
	}
	for _, r := range p.m.routes {
		p.around(r.To)
	}
}

// around asks for addresses at the edges of a prefix.
func (p *pair) around(q api.Prefix) {
	p.Helper()
	size := 8 * len(q.Addr)
	low, high := []byte(cleared(q.Addr, q.Bits)), []byte(cleared(q.Addr, q.Bits))
	for i := q.Bits; i < size; i++ {
		high[i/8] |= 0x80 >> (i % 8)
	}
	for _, a := range []string{string(low), string(high)} {
		p.find(a)
		p.find(flipped(a, 0))
		p.find(flipped(a, size-1))
		p.find(flipped(a, max(q.Bits-1, 0)))
		p.find(flipped(a, min(q.Bits, size-1)))
	}
}

// refused tells a table what it must refuse, and fails if that alters anything.
func (p *pair) refused(want api.Errno, r api.Route) {
	p.Helper()
	if e := p.add(r); e != want {
		p.Fatalf("P18.1: Add(%#v) = %d, not %d", r, e, want)
	}
	p.listed()
}

// TestNew asks a table that has no routes.
func TestNew(t *testing.T) {
	x := route.New()
	if x == nil {
		t.Fatal("P18.1: New() = nil")
	}
	if list := x.List(); len(list) != 0 {
		t.Errorf("P18.1: List() of a new table = %#v", list)
	}
	if r, e := x.Find(ten4); r != (api.Route{}) || e != api.ErrRoute {
		t.Errorf("P18.2: Find in a new table = %#v, %d", r, e)
	}
	if e := x.Remove(to(zero4, 0)); e != api.ErrNone {
		t.Errorf("P18.1: Remove from a new table = %d", e)
	}
	fresh(t).same()
}

// TestExample is the example of the chapter.
func TestExample(t *testing.T) {
	x := route.New()
	if e := x.Add(through("\x0a\x00\x00\x00", 8, 1)); e != api.OK {
		t.Errorf("P18.1: Add = %d", e)
	}
	if e := x.Add(through("\x0a\x01\x00\x00", 16, 2)); e != api.OK {
		t.Errorf("P18.1: Add = %d", e)
	}
	for _, c := range []struct {
		dst  string
		want api.Route
		e    api.Errno
	}{
		{"\x0a\x01\x02\x03", through("\x0a\x01\x00\x00", 16, 2), api.OK},
		{"\x0a\x02\x00\x01", through("\x0a\x00\x00\x00", 8, 1), api.OK},
		{"\x0b\x00\x00\x01", api.Route{}, api.ErrRoute},
	} {
		if r, e := x.Find(c.dst); r != c.want || e != c.e {
			t.Errorf("P18.2: Find(%q) = %#v, %d, not %#v, %d", c.dst, r, e, c.want, c.e)
		}
	}
}

// TestAddLengths passes addresses of all short lengths, and long ones, with bits
// that would do for them.
func TestAddLengths(t *testing.T) {
	lengths := []int{64, 255, 256, 260, 272, 65540, 65552}
	for n := range 40 {
		lengths = append(lengths, n)
	}
	for _, n := range lengths {
		for _, bits := range []int{0, 1, 8, 24, 32, 8 * n} {
			p := fresh(t)
			want := api.ErrArg
			if n == 4 && bits <= 32 || n == 16 && bits <= 128 {
				want = api.OK
			}
			if e := p.add(through(some(n, 1), bits, 0)); e != want {
				t.Errorf("P18.1: Add of an address of %d bytes with %d bits = %d, not %d", n, bits, e, want)
			}
			p.same()
		}
	}
}

// TestAddBits passes numbers of bits at, within and past both ends.
func TestAddBits(t *testing.T) {
	for _, a := range []string{zero4, ten4, ones4, zero6, doc6, ones6} {
		most := 8 * len(a)
		for bits := -3; bits <= most+3; bits++ {
			p, want := fresh(t), api.OK
			if bits < 0 || bits > most {
				want = api.ErrArg
			}
			if e := p.add(through(a, bits, 1)); e != want {
				t.Errorf("P18.1: Add of %q with %d bits = %d, not %d", a, bits, e, want)
			}
			p.same()
		}
		for _, bits := range []int{math.MinInt, math.MinInt32, -most, 129, 256, 256 + 8, 65536, math.MaxInt32, 1 << 32, 1<<32 + 8, math.MaxInt} {
			fresh(t).refused(api.ErrArg, through(a, bits, 1))
			fresh(t, through(a, 8, 2)).refused(api.ErrArg, through(a, bits, 1))
		}
	}
}

// TestAddVia passes ways of all short lengths beside addresses of both versions.
func TestAddVia(t *testing.T) {
	lengths := []int{64, 256, 260, 272, 65540, 65552}
	for n := range 40 {
		lengths = append(lengths, n)
	}
	for _, a := range []string{ten4, doc6} {
		for _, n := range lengths {
			for _, bits := range []int{0, 8, 8 * len(a)} {
				p := fresh(t)
				want := api.ErrArg
				if n == 0 || n == len(a) {
					want = api.OK
				}
				if e := p.add(by(a, bits, some(n, 2), 1)); e != want {
					t.Errorf("P18.1: Add of an address of %d bytes by way of %d bytes = %d, not %d", len(a), n, e, want)
				}
				p.same()
			}
		}
	}
}

// TestAddViaWhole adds routes by way of addresses of all kinds, which stay as
// they are.
func TestAddViaWhole(t *testing.T) {
	for _, via := range []string{zero4, ten4, ones4, zero6, doc6, ones6, some(4, 3), some(16, 4)} {
		for _, bits := range []int{0, 1, 9, 31, 32} {
			a := some(len(via), 5)
			x := route.New()
			if e := x.Add(by(a, bits, via, 7)); e != api.OK {
				t.Errorf("P18.1: Add by way of %q = %d", via, e)
			}
			want := by(cleared(a, bits), bits, via, 7)
			if list := x.List(); len(list) != 1 || list[0] != want {
				t.Errorf("P18.1: List() = %#v, not %#v", list, want)
			}
			if r, e := x.Find(a); r != want || e != api.OK {
				t.Errorf("P18.2: Find(%q) = %#v, %d, not %#v", a, r, e, want)
			}
		}
	}
}

// TestAddPort passes ports at and past their end.
func TestAddPort(t *testing.T) {
	for _, r := range []api.Route{through(ten4, 8, 0), by(ten4, 0, ones4, 0), through(doc6, 128, 0), by(doc6, 33, zero6, 0)} {
		for _, n := range []int{0, 1, 2, 7, 8, 63, 64, 65, 255, 256, 65535, 65536, math.MaxInt32} {
			r.Port = n
			p := fresh(t)
			if e := p.add(r); e != api.OK {
				t.Errorf("P18.1: Add(%#v) = %d", r, e)
			}
			p.same()
		}
		for _, n := range []int{-1, -2, -64, -256, -65536, math.MinInt32, -1 << 32, math.MinInt} {
			r.Port = n
			fresh(t).refused(api.ErrArg, r)
		}
	}
}

// everyRoute calls f with routes in which right and wrong values of all fields
// stand beside each other in all ways.
func everyRoute(f func(r api.Route)) {
	addresses := []string{"", ten4[:3], ten4, ten4 + "\x04", doc6[:15], doc6, doc6 + "\x0c"}
	vias := []string{"", ones4[:3], ones4, ones4 + "\xff", ones6[:15], ones6, ones6 + "\xff"}
	for _, a := range addresses {
		for _, bits := range []int{math.MinInt, -1, 0, 1, 24, 32, 33, 120, 128, 129, math.MaxInt} {
			for _, via := range vias {
				for _, port := range []int{math.MinInt, -1, 0, 1, 5} {
					f(by(a, bits, via, port))
				}
			}
		}
	}
}

// TestAddTogether passes routes with all sets of wrong fields, to a table without
// routes, to one with some, and to one that is full.
func TestAddTogether(t *testing.T) {
	good := 0
	few, full := fresh(t, through(ten4, 24, 1), through(doc6, 120, 1)), fresh(t, many(64)...)
	everyRoute(func(r api.Route) {
		p := fresh(t)
		if p.add(r) == api.OK {
			good++
		}
		p.same()
		few.add(r)
		few.listed()
		if full.add(r) == api.OK {
			t.Errorf("P18.1: %#v was added to 64 routes", r)
		}
	})
	if want := (4 + 7) * 2 * 3; good != want { // bits of each version, ways, ports
		t.Errorf("P18.1: %d routes are valid, not %d", good, want)
	}
	few.same()
	full.same()
}

// TestAddMasks adds routes whose addresses have bits set behind the prefix.
func TestAddMasks(t *testing.T) {
	for _, a := range []string{ten4, ones4, "\x80\x7f\xaa\x55", doc6, ones6, some(16, 6)} {
		for bits := range 8*len(a) + 1 {
			p := fresh(t)
			p.add(through(a, bits, 3))
			want := through(cleared(a, bits), bits, 3)
			if list := p.x.List(); len(list) != 1 || list[0] != want {
				t.Errorf("P18.1: List() = %#v, not %#v", list, want)
			}
			if r, e := p.x.Find(a); r != want || e != api.OK {
				t.Errorf("P18.2: Find(%q) = %#v, %d, not %#v", a, r, e, want)
			}
			p.same()
		}
	}
}

// TestAddReplaces adds prefixes that are there already, by way of something else
// and through another port, with and without bits set behind the prefix.
func TestAddReplaces(t *testing.T) {
	for _, a := range []string{ten4, doc6} {
		for _, bits := range []int{0, 1, 8, 9, 31, 32, 8*len(a) - 1, 8 * len(a)} {
			p := fresh(t, through(ones4, 20, 8), through(ones6, 70, 9))
			for _, b := range []string{a, cleared(a, bits), a} {
				for _, via := range []string{"", some(len(a), 7), some(len(a), 8), ""} {
					for _, port := range []int{0, 5, 4, 4} {
						p.add(by(b, bits, via, port))
						if n := len(p.x.List()); n != 3 {
							t.Fatalf("P18.1: there are %d routes after %q/%d was replaced, not 3", n, a, bits)
						}
						p.same()
					}
				}
			}
		}
	}
}

// TestAddReplacesOne replaces each of some routes, which alters no other one.
func TestAddReplacesOne(t *testing.T) {
	for _, n := range []int{1, 2, 3, 10, 63, 64} {
		routes := many(n)
		p := fresh(t, routes...)
		for i, r := range routes {
			r.Port, r.Via = 1000+i, some(len(r.To.Addr), uint64(i))
			p.add(r)
			p.listed()
		}
		p.same()
	}
}

// TestAddUnlike adds prefixes that differ in their bits, their last bit or their
// version alone: none of them replaces another one.
func TestAddUnlike(t *testing.T) {
	list := []api.Prefix{
		to(zero4, 0), to(zero4, 1), to(zero4, 8), to(zero4, 31), to(zero4, 32), to(flipped(zero4, 31), 32), to(flipped(zero4, 0), 1),
		to(zero6, 0), to(zero6, 1), to(zero6, 8), to(zero6, 31), to(zero6, 32), to(zero6, 127), to(zero6, 128), to(flipped(zero6, 127), 128),
		to(flipped(zero6, 31), 32), to(flipped(zero6, 0), 1), to(flipped(zero6, 64), 65), to(flipped(zero6, 63), 64),
	}
	p := fresh(t)
	for i, q := range list {
		p.add(through(q.Addr, q.Bits, i))
		if n := len(p.x.List()); n != i+1 {
			t.Fatalf("P18.1: there are %d routes after %d prefixes were added", n, i+1)
		}
		p.same()
	}
	for _, q := range list {
		if e := p.remove(q); e != api.OK {
			t.Errorf("P18.1: Remove(%#v) = %d", q, e)
		}
		p.same()
	}
}

// many are n valid routes with unlike prefixes, of both versions and many numbers
// of bits, in no order.
func many(n int) []api.Route {
	list := make([]api.Route, n)
	for i := range list {
		size := []int{4, 16}[i%2]
		bits := 8 + i*5%(8*size-7)
		a := []byte(some(size, uint64(i)))
		a[0] = byte(i * 37)
		list[i] = by(string(a), bits, []string{"", some(size, 100+uint64(i))}[i/2%2], i%9)
	}
	return list
}

// ofSize are n routes to addresses of one version.
func ofSize(n int, size int) []api.Route {
	list := make([]api.Route, n)
	for i := range list {
		list[i] = through(string([]byte{byte(i * 11), 1})+some(size-2, uint64(i)), 8+i%(8*size-8), i)
	}
	return list
}

// TestAddFull adds routes up to 64 and beyond, of each version and of both.
func TestAddFull(t *testing.T) {
	for _, list := range [][]api.Route{many(66), ofSize(66, 4), ofSize(66, 16)} {
		p := fresh(t)
		for i, r := range list {
			want := api.OK
			if i >= 64 {
				want = api.ErrFull
			}
			if e := p.add(r); e != want {
				t.Fatalf("P18.1: Add to %d routes = %d, not %d", i, e, want)
			}
			if n := len(p.x.List()); n != min(i+1, 64) {
				t.Fatalf("P18.1: there are %d routes after %d were added", n, i+1)
			}
			p.listed()
		}
		p.same()
	}
}

// TestAddWhenFull adds prefixes that are there, and that are not, to 63 and 64
// routes, and makes room again.
func TestAddWhenFull(t *testing.T) {
	list := many(66)
	for _, n := range []int{63, 64} {
		for i := range n {
			p := fresh(t, list[:n]...)
			r := list[i]
			r.Port, r.Via = 77, some(len(r.To.Addr), 9)
			if e := p.add(r); e != api.OK {
				t.Fatalf("P18.1: Add of a prefix that is there to %d routes = %d", n, e)
			}
			p.listed()
			if e := p.add(list[64]); e == api.OK != (n == 63) {
				t.Fatalf("P18.1: Add of another prefix to %d routes = %d", n, e)
			}
			p.refused(api.ErrFull, list[65])
			if e := p.remove(r.To); e != api.OK {
				t.Fatalf("P18.1: Remove from %d routes = %d", len(p.m.routes), e)
			}
			p.listed()
			for len(p.m.routes) < 64 {
				p.add(list[64])
				p.add(list[65])
			}
			p.refused(api.ErrFull, r)
			p.same()
		}
	}
}

// TestAddOrder passes routes that are not valid where there is no room, or where
// there is a route with the same prefix: ErrArg is told first, and nothing is
// replaced.
func TestAddOrder(t *testing.T) {
	for _, n := range []int{10, 63, 64} {
		list := many(n)
		p := fresh(t, list...)
		for _, r := range append(list, through("\x01\x02\x03\x04", 32, 0), through("\x01"+doc6[1:], 128, 0)) {
			size := len(r.To.Addr)
			r.Port = -1
			p.refused(api.ErrArg, r)
			r.Port, r.Via = 5, some(20-size, 1)
			p.refused(api.ErrArg, r)
			r.Via = "\x01"
			p.refused(api.ErrArg, r)
			r.Via, r.To.Bits = "", 8*size+1
			p.refused(api.ErrArg, r)
			r.To.Bits = -1
			p.refused(api.ErrArg, r)
			r.To.Bits, r.To.Addr = 8, r.To.Addr[:size-1]
			p.refused(api.ErrArg, r)
		}
		p.same()
	}
}

// TestRemove removes routes from each place, first of all and again.
func TestRemove(t *testing.T) {
	for _, n := range []int{1, 2, 3, 8, 63, 64} {
		sorted := fresh(t, many(n)...).x.List()
		for i, r := range sorted {
			p := fresh(t, many(n)...)
			if e := p.remove(r.To); e != api.OK {
				t.Fatalf("P18.1: Remove of route %d of %d = %d", i, n, e)
			}
			p.listed()
			if e := p.remove(r.To); e != api.ErrNone {
				t.Fatalf("P18.1: Remove of route %d of %d again = %d", i, n, e)
			}
			p.listed()
			p.around(r.To)
			p.add(r)
			p.listed()
		}
	}
}

// TestRemoveAll removes all routes from the first on, from the last on, and in
// the order in which they came.
func TestRemoveAll(t *testing.T) {
	list := many(64)
	front := fresh(t, list...).x.List()
	back := slices.Clone(front)
	slices.Reverse(back)
	for _, order := range [][]api.Route{list, front, back} {
		p := fresh(t, list...)
		for _, r := range order {
			if e := p.remove(r.To); e != api.OK {
				t.Fatalf("P18.1: Remove(%#v) = %d", r.To, e)
			}
			p.listed()
			p.around(r.To)
		}
		for _, r := range order {
			if e := p.remove(r.To); e != api.ErrNone {
				t.Fatalf("P18.1: Remove(%#v) from no routes = %d", r.To, e)
			}
		}
		for _, r := range order {
			p.add(r)
		}
		p.same()
	}
}

// TestRemoveMasks removes prefixes whose addresses have bits set behind them,
// other ones than when they were added.
func TestRemoveMasks(t *testing.T) {
	for _, a := range []string{ten4, ones4, doc6, ones6} {
		for bits := range 8*len(a) + 1 {
			with := []string{a, cleared(a, bits)}
			for bit := bits; bit < 8*len(a); bit += 9 {
				with = append(with, flipped(a, bit), flipped(cleared(a, bits), bit))
			}
			for _, b := range with {
				p := fresh(t, through(a, bits, 1), through(some(4, 1), 13, 2), through(some(16, 1), 13, 3))
				if e := p.remove(to(b, bits)); e != api.OK {
					t.Fatalf("P18.1: Remove(%q/%d) = %d", b, bits, e)
				}
				p.listed()
				p.find(a)
				p.find(b)
			}
		}
	}
}

// TestRemoveNone removes prefixes that are near ones that are there.
func TestRemoveNone(t *testing.T) {
	for _, r := range []api.Route{through(ten4, 24, 1), through(doc6, 24, 1), through(doc6, 120, 1), through(ten4, 32, 1), through(doc6, 128, 1)} {
		p := fresh(t, r, through(ones4, 7, 2), through(ones6, 7, 3))
		size := 8 * len(r.To.Addr)
		for bits := range size + 1 {
			if bits != r.To.Bits && p.remove(to(r.To.Addr, bits)) != api.ErrNone {
				t.Errorf("P18.1: a route to %d bits was removed as one to %d", r.To.Bits, bits)
			}
		}
		for bit := range r.To.Bits {
			if e := p.remove(to(flipped(r.To.Addr, bit), r.To.Bits)); e != api.ErrNone {
				t.Errorf("P18.1: Remove = %d with bit %d altered", e, bit)
			}
		}
		p.same()
	}
	// The same first bytes, and the same bits, in the other version.
	p := fresh(t, through("\x20\x01\x0d\xb8", 32, 1))
	p.remove(to("\x20\x01\x0d\xb8"+zero6[4:], 32))
	p.same()
	p = fresh(t, through("\x20\x01\x0d\xb8"+zero6[4:], 32, 1))
	p.remove(to("\x20\x01\x0d\xb8", 32))
	p.same()
	p = fresh(t, through(zero4, 0, 1))
	p.remove(to(zero6, 0))
	p.same()
	p = fresh(t, through(zero6, 0, 1))
	p.remove(to(zero4, 0))
	p.same()
}

// TestRemoveNoMask removes prefixes that have no Mask, from tables of all sizes.
func TestRemoveNoMask(t *testing.T) {
	for _, n := range []int{0, 1, 10, 64} {
		p := fresh(t, many(n)...)
		if n == 1 {
			p.add(through(zero4, 0, 1))
			p.add(through(zero6, 0, 1))
		}
		for size := range 40 {
			for _, bits := range []int{math.MinInt, -1, 0, 8, 8 * size, 8*size + 1, 129, math.MaxInt} {
				if q := to(strings.Repeat("\x00", size), bits); !isPrefix(q) {
					if e := p.remove(q); e != api.ErrNone {
						t.Errorf("P18.1: Remove(%#v) = %d, not %d", q, e, api.ErrNone)
					}
				}
			}
		}
		p.remove(api.Prefix{})
		p.remove(to(some(65540, 1), 8))
		for _, r := range p.x.List() {
			for _, bits := range []int{-1, -1 - r.To.Bits, 256 + r.To.Bits, 1<<32 + r.To.Bits} {
				if e := p.remove(to(r.To.Addr, bits)); e != api.ErrNone {
					t.Errorf("P18.1: Remove with %d bits = %d", bits, e)
				}
			}
		}
		p.same()
	}
}
