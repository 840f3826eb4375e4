package route_test

import (
	"slices"
	"testing"
	"unsafe"

	"redoubt/api"
)

// drawnAddress is one of few addresses of both versions that the dice choose, so
// that many have the same first bits.
func drawnAddress(d *dice) string {
	size := []int{4, 16}[d.under(2)]
	b := make([]byte, size)
	for i := range b {
		b[i] = []byte{0, 0, 0x0a, 0x80, 0xff}[d.under(5)]
		if i > 0 && i < size-1 && !d.once(3) {
			b[i] = b[i-1]
		}
	}
	return string(b)
}

// drawnPrefix is a prefix that the dice choose, with bits set behind it or not.
func drawnPrefix(d *dice) api.Prefix {
	a := drawnAddress(d)
	size := 8 * len(a)
	return to(a, []int{0, 1, 8, 9, 16, size - 8, size - 1, size, d.under(size + 1)}[d.under(9)])
}

// drawn is a route that the dice choose, seldom one that is not valid.
func drawn(d *dice) api.Route {
	r := api.Route{To: drawnPrefix(d), Port: d.under(5)}
	if d.once(2) {
		r.Via = some(len(r.To.Addr), uint64(d.under(10)))
	}
	switch d.under(40) {
	case 0:
		r.To.Bits = -1 - d.under(3)
	case 1:
		r.To.Bits = 8*len(r.To.Addr) + 1 + d.under(3)
	case 2:
		r.Port = -1 - d.under(3)
	case 3:
		r.Via = some(d.under(20), 1)
	case 4:
		r.To.Addr = some(d.under(20), 2)
	}
	return r
}

// step calls a method that the dice choose.
func (p *pair) step(d *dice) {
	p.Helper()
	switch d.under(7) {
	case 0, 1:
		p.add(drawn(d))
	case 2:
		p.remove(drawnPrefix(d))
	case 3:
		if n := len(p.m.routes); n > 0 && d.once(2) {
			p.remove(p.m.routes[d.under(n)].To)
		}
	case 4:
		if n := len(p.m.routes); n > 0 {
			r := p.m.routes[d.under(n)]
			r.Port = d.under(9) - 1
			p.add(r)
		}
	default:
		for range 5 {
			p.find(drawnAddress(d))
		}
	}
}

// TestWalks calls all methods without a plain order, in tables that are mostly
// small and in ones that are mostly full.
func TestWalks(t *testing.T) {
	for seed := range uint64(20) {
		p, d := fresh(t), &dice{seed}
		if seed%2 == 1 {
			p = fresh(t, many(60)...)
		}
		for i := range 1000 {
			p.step(d)
			p.listed()
			if i%250 == 0 {
				p.same()
			}
		}
		p.same()
	}
}

// TestApart takes turns between tables: what one has tells the others nothing.
func TestApart(t *testing.T) {
	list := []*pair{fresh(t), fresh(t), fresh(t, many(5)...), fresh(t, many(64)...)}
	d := &dice{100}
	for range 1500 {
		list[d.under(len(list))].step(d)
		a := drawnAddress(d)
		for _, p := range list {
			p.find(a)
			p.listed()
		}
	}
}

// call is an Add of a route, or a Remove of its prefix.
type call struct {
	r      api.Route
	remove bool
}

// prefix is what the call is about.
func (c call) prefix() api.Prefix { return to(cleared(c.r.To.Addr, c.r.To.Bits), c.r.To.Bits) }

// done does the calls, of which none is refused for want of room.
func done(t *testing.T, calls []call) *pair {
	t.Helper()
	p := fresh(t)
	for _, c := range calls {
		if c.remove {
			p.remove(c.r.To)
		} else if e := p.add(c.r); e != api.OK {
			t.Fatalf("P18.1: Add(%#v) = %d", c.r, e)
		}
	}
	return p
}

// lasts are the calls without those after which another one is about the same
// prefix.
func lasts(calls []call) []call {
	var list []call
	for i, c := range calls {
		if !slices.ContainsFunc(calls[i+1:], func(d call) bool { return d.prefix() == c.prefix() }) {
			list = append(list, c)
		}
	}
	return list
}

// drawnCalls are calls about at most 60 prefixes, many of them about the same.
func drawnCalls(d *dice, n int) []call {
	var routes []api.Route
	for len(routes) < 60 {
		if r := drawn(d); may(r) {
			routes = append(routes, r)
		}
	}
	var list []call
	for range n {
		r := routes[d.under(len(routes))]
		r.Port = d.under(1000)
		if d.once(3) {
			r.Via = some(len(r.To.Addr), uint64(d.under(9)))
		}
		list = append(list, call{r, d.once(3)})
	}
	return list
}

// TestOrder does the last call about each prefix alone, in several orders: what
// Find answers is the same as after all the calls.
func TestOrder(t *testing.T) {
	for seed := range uint64(60) {
		d := &dice{200 + seed}
		calls := drawnCalls(d, 1+d.under(300))
		p, last := done(t, calls), lasts(calls)
		var asked []string
		for range 60 {
			asked = append(asked, drawnAddress(d))
		}
		for _, c := range last {
			asked = append(asked, c.r.To.Addr, cleared(c.r.To.Addr, c.r.To.Bits), flipped(c.r.To.Addr, max(c.r.To.Bits, 1)-1))
		}
		for range 6 {
			for i := range last {
				j := i + d.under(len(last)-i)
				last[i], last[j] = last[j], last[i]
			}
			q := done(t, last)
			for _, dst := range asked {
				want, wrong := p.x.Find(dst)
				if r, e := q.x.Find(dst); r != want || e != wrong {
					t.Fatalf("P18.3: Find(%q) = %#v, %d, and %#v, %d after the same last calls in another order", dst, want, wrong, r, e)
				}
			}
			if !slices.Equal(p.x.List(), q.x.List()) {
				t.Fatal("P18.3: the lists after the same last calls differ")
			}
		}
	}
}

// TestEverything adds routes with 0 bits: each is for all addresses of its version
// that no other route is for, and for none of the other version.
func TestEverything(t *testing.T) {
	d := &dice{300}
	for _, list := range [][]api.Route{nil, many(5), many(63)} {
		for _, a := range []string{zero4, ten4, ones4, zero6, doc6, ones6} {
			p := fresh(t, list...)
			none := fresh(t, list...)
			all := through(cleared(a, 0), 0, 4000)
			if e := p.add(by(a, 0, "", 4000)); e != api.OK {
				t.Fatalf("P18.1: Add = %d", e)
			}
			for range 300 {
				dst := some([]int{4, 16}[d.under(2)], uint64(d.under(1<<30)))
				before, wrong := none.x.Find(dst)
				r, e := p.x.Find(dst)
				switch {
				case len(dst) == len(a) && wrong == api.ErrRoute:
					if r != all || e != api.OK {
						t.Errorf("P18.3: Find(%q) = %#v, %d, not %#v", dst, r, e, all)
					}
				case r != before || e != wrong:
					t.Errorf("P18.3: Find(%q) = %#v, %d with a route to everything else, and was %#v, %d", dst, r, e, before, wrong)
				}
			}
			p.same()
		}
	}
}

// TestEverythingAlone asks a table with one route with 0 bits for addresses of both
// versions, at their ends too.
func TestEverythingAlone(t *testing.T) {
	for _, a := range []string{zero4, ten4, ones4, zero6, doc6, ones6} {
		x := fresh(t, through(a, 0, 2)).x
		for _, dst := range []string{zero4, ten4, ones4, zero6, doc6, ones6, some(4, 1), some(16, 2), zero6[4:] + ten4, ten4 + zero6[4:]} {
			if len(dst) == len(a) {
				found(t, x, dst, through(cleared(a, 0), 0, 2))
			} else {
				lost(t, x, dst, api.ErrRoute)
			}
		}
	}
}

// TestListIsNew alters lists, and puts more behind them.
func TestListIsNew(t *testing.T) {
	for _, n := range []int{1, 2, 3, 7, 8, 63, 64} {
		p := fresh(t, many(n)...)
		first, second := p.x.List(), p.x.List()
		kept := slices.Clone(second)
		for i := range first {
			first[i] = by(ones4, 3, ones4, 99)
		}
		first = append(first, through(zero4, 0, 1), through(zero6, 0, 1))
		slices.Reverse(first)
		p.same()
		if !slices.Equal(second, kept) {
			t.Errorf("P18.1: two lists of %d routes share memory", n)
		}
		p.remove(kept[0].To)
		p.add(through(kept[0].To.Addr, kept[0].To.Bits, 98))
		p.add(by(kept[n-1].To.Addr, kept[n-1].To.Bits, "", 97))
		p.add(through(zero4, 0, 96))
		p.same()
		if !slices.Equal(second, kept) {
			t.Errorf("P18.1: a list of %d routes goes with the table", n)
		}
	}
}

// room is memory that strings lie in which are altered with it.
type room []byte

// filled is a room whose bytes rise.
func filled() room {
	m := make(room, 40)
	for i := range m {
		m[i] = byte(i + 1)
	}
	return m
}

// text is a string that lies in the room.
func (m room) text(at int, n int) string { return unsafe.String(&m[at], n) }

// routes are routes whose strings lie in the room, with all their bits and with
// some of them.
func (m room) routes() []api.Route {
	return []api.Route{
		by(m.text(4, 4), 7, m.text(0, 4), 1),
		by(m.text(8, 4), 32, m.text(4, 4), 2),
		by(m.text(8, 16), 7, m.text(20, 16), 3),
		by(m.text(12, 16), 128, m.text(24, 16), 4),
	}
}

// answered are the routes of new answers of all the calls that answer any.
func answered(t *testing.T, p *pair, m room) []api.Route {
	t.Helper()
	list := p.x.List()
	for _, r := range m.routes() {
		q, e := p.x.Find(r.To.Addr)
		if e != api.OK {
			t.Fatalf("P18.2: Find(%q) = %d", r.To.Addr, e)
		}
		list = append(list, q)
	}
	return list
}

// TestArgumentsAreKept alters the memory of strings after they were passed, where
// routes were added and where they replaced the same ones.
func TestArgumentsAreKept(t *testing.T) {
	for times := 1; times <= 2; times++ {
		m, same := filled(), filled()
		p, other := fresh(t), fresh(t, same.routes()...)
		for range times {
			for _, r := range m.routes() {
				if e := p.x.Add(r); e != api.OK {
					t.Fatalf("P18.1: Add = %d", e)
				}
				p.x.Remove(to(m.text(13, 16), 128))
			}
		}
		answered(t, p, m)
		if !slices.Equal(m, same) {
			t.Error("P18.1: a call alters what it is passed")
		}
		clear(m)
		if list, want := answered(t, p, same), answered(t, other, same); !slices.Equal(list, want) {
			t.Errorf("P18.1: %#v is answered after the arguments of Add were altered, not %#v", list, want)
		}
	}
}

// TestTextsAreNew holds where the strings of answers lie against where those that
// were passed, and those of other answers, lie, and alters some of them.
func TestTextsAreNew(t *testing.T) {
	m := filled()
	p := fresh(t, m.routes()...)
	first, second := answered(t, p, m), answered(t, p, m)
	kept := slices.Clone(m)
	lies := map[*byte]bool{}
	for i := range m {
		lies[&m[i]] = true
	}
	for _, r := range append(slices.Clone(first), second...) {
		for _, x := range []string{r.To.Addr, r.Via} {
			at := unsafe.StringData(x)
			if lies[at] {
				t.Fatal("P18.1: strings of an answer share memory with others")
			}
			lies[at] = true
		}
	}
	for _, r := range first { // they are in memory of their own, so they may be altered
		for _, x := range []string{r.To.Addr, r.Via} {
			clear(unsafe.Slice(unsafe.StringData(x), len(x)))
		}
	}
	if !slices.Equal(answered(t, p, m), second) || !slices.Equal(m, kept) {
		t.Error("P18.1: something else is altered with an answer")
	}
}
