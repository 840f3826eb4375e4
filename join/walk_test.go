package join_test

import (
	"cmp"
	"slices"
	"strings"
	"testing"

	"redoubt/api"
	"redoubt/ip4"
	"redoubt/join"
	"redoubt/split"
)

// kept is an incomplete packet of a model.
type kept struct {
	since int
	list  []api.Ip4 // as they arrived
}

// model is a joiner by the words of the chapter.
type model struct{ packets []*kept }

// stop is where the range of a fragment ends.
func stop(p api.Ip4) int { return p.Off + len(p.Data) }

// put is what Put must answer.
func (m *model) put(now int, p api.Ip4) (api.Ip4, bool, api.Errno) {
	e := ip4.Check(p)
	switch {
	case e != api.OK:
		return api.Ip4{}, false, e
	case p.Off == 0 && !p.Mf:
		return p, true, api.OK
	case p.Mf && (len(p.Data) == 0 || len(p.Data)%8 != 0):
		return api.Ip4{}, false, api.ErrForm
	case stop(p) > 65515:
		return api.Ip4{}, false, api.ErrLong
	}
	at := slices.IndexFunc(m.packets, func(k *kept) bool {
		q := k.list[0]
		return p.Src == q.Src && p.Dst == q.Dst && p.Proto == q.Proto && p.Id == q.Id
	})
	if at < 0 {
		if len(m.packets) == 16 {
			return api.Ip4{}, false, api.ErrFull
		}
		m.packets = append(m.packets, &kept{now, []api.Ip4{p}})
		return api.Ip4{}, false, api.OK
	}
	return m.more(at, p)
}

// more is what Put must answer if there are fragments of the same packet.
func (m *model) more(at int, p api.Ip4) (api.Ip4, bool, api.Errno) {
	k := m.packets[at]
	for _, q := range k.list {
		if p.Off == q.Off && p.Mf == q.Mf && string(p.Data) == string(q.Data) {
			return api.Ip4{}, false, api.OK
		}
	}
	if len(k.list) == 64 {
		return api.Ip4{}, false, api.ErrFull
	}
	k.list = append(k.list, p)
	if !agree(k.list) {
		m.packets = slices.Delete(m.packets, at, at+1)
		return api.Ip4{}, false, api.ErrForm
	}
	q, ok := made(k.list)
	if !ok {
		return api.Ip4{}, false, api.OK
	}
	m.packets = slices.Delete(m.packets, at, at+1)
	if ip4.Check(q) != api.OK {
		return api.Ip4{}, false, api.ErrLong
	}
	return q, true, api.OK
}

// agree tells whether some fragments can be of one packet.
func agree(list []api.Ip4) bool {
	for i, p := range list {
		for j, q := range list {
			switch {
			case i == j:
			case max(p.Off, q.Off) < min(stop(p), stop(q)),
				!p.Mf && stop(p) < stop(q),
				!p.Mf && !q.Mf && stop(p) != stop(q):
				return false
			}
		}
	}
	return true
}

// made is the packet that some fragments make, if they do.
func made(list []api.Ip4) (api.Ip4, bool) {
	at := slices.IndexFunc(list, func(p api.Ip4) bool { return !p.Mf })
	if at < 0 {
		return api.Ip4{}, false
	}
	there := make([]bool, stop(list[at]))
	for _, p := range list {
		for i := range p.Data {
			there[p.Off+i] = true
		}
	}
	if slices.Contains(there, false) {
		return api.Ip4{}, false
	}
	list = slices.Clone(list)
	slices.SortStableFunc(list, func(p api.Ip4, q api.Ip4) int { return cmp.Compare(p.Off, q.Off) })
	out := list[0]
	out.Mf, out.Data = false, nil
	for _, p := range list {
		out.Data = append(out.Data, p.Data...)
	}
	return out, true
}

// tick is what Tick must answer.
func (m *model) tick(now int) []api.Ip4 {
	var out []api.Ip4
	m.packets = slices.DeleteFunc(m.packets, func(k *kept) bool {
		if k.since > now-60 {
			return false
		}
		for _, p := range k.list {
			if p.Off == 0 {
				out = append(out, p)
			}
		}
		return true
	})
	return out
}

// pair is a joiner beside its model.
type pair struct {
	bench
	m *model
}

// two are a fresh one.
func two(t *testing.T) pair { return pair{fresh(t), &model{}} }

// put fails unless both answer the same, and returns that.
func (x pair) put(now int, p api.Ip4) (api.Ip4, bool, api.Errno) {
	x.t.Helper()
	q, ok, e := x.m.put(now, p)
	x.answers(now, p, q, ok, e)
	x.waiting(len(x.m.packets))
	return q, ok, e
}

// tick does so for Tick.
func (x pair) tick(now int) []api.Ip4 {
	x.t.Helper()
	list := x.m.tick(now)
	x.drops(len(x.m.packets), now, list...)
	return list
}

// TestFew puts all sequences of up to four of some fragments.
func TestFew(t *testing.T) {
	list := []api.Ip4{
		piece(0, 8, true), piece(0, 16, true), headed(piece(0, 8, true), "\x01\x01\x01\x01"), other(piece(0, 8, true)),
		piece(8, 8, true), piece(8, 16, true), piece(8, 0, false), piece(8, 1, false), piece(8, 8, false), piece(8, 9, false), other(piece(8, 8, false)),
		piece(16, 8, true), piece(16, 0, false), piece(16, 1, false), piece(16, 8, false), piece(24, 0, false),
	}
	n := len(list)
	for i := range n * n * n * n {
		x := two(t)
		for range 4 {
			x.put(0, list[i%n])
			i /= n
		}
		x.tick(60)
	}
}

// TestPairs puts all pairs of fragments with short data at near places.
func TestPairs(t *testing.T) {
	var list []api.Ip4
	for off := 0; off <= 32; off += 8 {
		for n := range 18 {
			for _, more := range []bool{false, true} {
				list = append(list, piece(off, n, more))
			}
		}
	}
	for _, p := range list {
		for _, q := range list {
			x := two(t)
			x.put(0, p)
			x.put(0, q)
			x.tick(60)
		}
	}
}

// drawn is a packet that the dice choose: mostly a fragment of the packet with an Id,
// which has an end of its own.
func drawn(d *dice, id int) api.Ip4 {
	end := 17 + 3*id%40
	off := 8 * d.under(end/8+1)
	p := of(id, piece(off, 8*(1+d.under(2)), true))
	if off+16 > end && !d.once(20) {
		p = of(id, piece(off, end-off, false))
	}
	switch d.under(40) {
	case 0:
		p = other(of(id, piece(off, 1+d.under(20), d.once(2))))
	case 1:
		notValid()[d.under(len(notValid()))](&p)
	case 2:
		p = of(id, piece(0, d.under(100), false))
	case 3:
		p = of(id, piece(65480+8*d.under(7), d.under(50), d.once(2)))
	case 4:
		p.Options = strings.Repeat("\x01", 4*d.under(11))
	case 5:
		p.Src, p.Dst = p.Dst, p.Src
	case 6:
		p.Data = make([]byte, 65500+d.under(30))
	}
	return p
}

// TestWalk puts packets and passes times without a plain order.
func TestWalk(t *testing.T) {
	x, d := two(t), &dice{11}
	count := map[api.Errno]int{}
	done, firsts, headless, now := 0, 0, 0, 0
	for range 150000 {
		now += d.under(3)
		_, ok, e := x.put(now-d.under(20), drawn(d, d.under(22)))
		count[e]++
		if ok {
			done++
		}
		if d.once(30) {
			before := len(x.m.packets)
			n := len(x.tick(now - d.under(30)))
			firsts += n
			headless += before - len(x.m.packets) - n
		}
	}
	for _, e := range []api.Errno{api.OK, api.ErrArg, api.ErrLong, api.ErrForm, api.ErrFull} {
		if count[e] < 300 {
			t.Errorf("the walk comes to error %d %d times", e, count[e])
		}
	}
	if done < 1000 || firsts < 300 || headless < 300 {
		t.Errorf("the walk makes %d packets and drops %d with and %d without a first fragment", done, firsts, headless)
	}
}

// TestWalkOfOne puts fragments of two packets that become many.
func TestWalkOfOne(t *testing.T) {
	d, count, done := &dice{12}, map[api.Errno]int{}, 0
	for range 300 {
		x, end, bad := two(t), 60+d.under(12), 20+d.under(300)
		for range 700 {
			at := d.under(end)
			p := of(d.under(2), piece(8*at, 8, at < end-1))
			if d.once(bad) {
				p.Data[0] ^= 1
			}
			_, ok, e := x.put(0, p)
			count[e]++
			if ok {
				done++
			}
		}
	}
	if done < 20 || count[api.ErrFull] < 100 || count[api.ErrForm] < 100 {
		t.Errorf("the walk makes %d packets and comes to %v", done, count)
	}
}

// TestNotValid makes packets whose header with the options of the first fragment is
// too long for their data: they are refused, and removed.
func TestNotValid(t *testing.T) {
	for n := 0; n <= 40; n += 4 {
		options := strings.Repeat("\x01", n)
		for _, end := range []int{65475, 65476, 65515 - n, 65516 - n, 65519 - n, 65514, 65515} {
			if end > 65515 {
				continue
			}
			list := []api.Ip4{headed(piece(0, 8, true), options), piece(8, 65456, true), piece(65464, end-65464, false)}
			want, e := headed(whole(end), options), api.OK
			if end+n > 65515 {
				want, e = api.Ip4{}, api.ErrLong
			}
			orders(len(list), func(order []int) {
				b := fresh(t)
				b.keeps(2, of(1, piece(0, 8, true)), list[order[0]], list[order[1]])
				b.answers(0, list[order[2]], want, e == api.OK, e)
				b.waiting(1)
				b.keeps(2, list[order[2]])
				b.drops(0, 60, firstsOf(of(1, piece(0, 8, true)), list[order[2]])...)
			})
		}
	}
	// The options of other fragments do not matter.
	b := fresh(t)
	b.keeps(1, piece(0, 65472, true))
	b.makes(0, headed(piece(65472, 43, false), strings.Repeat("\x01", 40)), whole(65515))
}

// divided are what layer 19 makes of a packet.
func divided(t *testing.T, p api.Ip4, mtu int) []api.Ip4 {
	t.Helper()
	list, e := split.Split(p, mtu)
	if e != api.OK {
		t.Fatalf("Split of %s: %d", told(p), e)
	}
	return list
}

// restored puts fragments in an order, some of them again: the packet is whole when
// all of them have come since it was whole before, and at no other time.
func (b bench) restored(list []api.Ip4, order []int, want api.Ip4) {
	b.t.Helper()
	here := map[int]bool{}
	for _, i := range order {
		here[i] = true
		if len(here) < len(list) {
			b.answers(0, list[i], api.Ip4{}, false, api.OK)
			continue
		}
		b.answers(0, list[i], want, true, api.OK)
		clear(here)
	}
}

// withOptions are packets whose fragments have all of their options, some or none.
func withOptions(n int) []api.Ip4 {
	var list []api.Ip4
	for _, options := range []string{"", "\x94\x04ab", "\x07\x03\x04\x94\x04\x00\x00\x00", "\x07\x28" + strings.Repeat("a", 38), "\x83\x28" + strings.Repeat("a", 38)} {
		p := headed(whole(n), options)
		p.Tos, p.Ttl, p.Id = n%256, 1, n%65536
		list = append(list, p)
	}
	return list
}

// TestRestored puts what layer 19 makes of packets in all orders, and in all orders
// in which one of the fragments comes twice.
func TestRestored(t *testing.T) {
	for n := range 190 {
		for _, p := range withOptions(n) {
			list := divided(t, p, 68+n%9)
			if len(list) > 4 {
				continue
			}
			orders(len(list), func(order []int) { fresh(t).restored(list, order, p) })
			orders(len(list)+1, func(order []int) {
				for again := range list {
					twice := slices.Clone(order)
					twice[slices.Index(twice, len(list))] = again
					fresh(t).restored(list, twice, p)
				}
			})
		}
	}
}

// shuffled are the numbers from 0 to n - 1 without a plain order, some of them twice.
func shuffled(d *dice, n int) []int {
	var list []int
	for i := range n {
		list = append(list, i)
		for d.once(3) {
			list = append(list, i)
		}
	}
	for i := range list {
		j := d.under(i + 1)
		list[i], list[j] = list[j], list[i]
	}
	return list
}

// TestRestoredOfMany does so for packets of up to 64 fragments, and the greatest ones.
func TestRestoredOfMany(t *testing.T) {
	d := &dice{9}
	for range 40 {
		for _, n := range []int{d.under(400), d.under(3000), 64*48 + d.under(2), d.under(65476), 65475} {
			for _, p := range withOptions(n) {
				mtu := 68 + n/64
				for len(divided(t, p, mtu)) > 64 {
					mtu += 4
				}
				list := divided(t, p, mtu)
				fresh(t).restored(list, shuffled(d, len(list)), p)
			}
		}
	}
	p := whole(65515)
	for _, mtu := range []int{1068, 1500, 9000, 32768, 65534, 65535} {
		list := divided(t, p, mtu)
		fresh(t).restored(list, shuffled(d, len(list)), p)
	}
}

// TestRestoredOfFragments divides fragments again.
func TestRestoredOfFragments(t *testing.T) {
	d := &dice{10}
	for _, p := range withOptions(1200) {
		var list []api.Ip4
		for i, q := range divided(t, p, 500) {
			list = append(list, divided(t, q, 100+30*i)...)
		}
		for range 20 {
			fresh(t).restored(list, shuffled(d, len(list)), p)
		}
	}
}

// TestRestoredTogether puts the fragments of sixteen packets without a plain order:
// each is restored.
func TestRestoredTogether(t *testing.T) {
	d := &dice{14}
	for range 100 {
		var wanted, list []api.Ip4
		for id := range 16 {
			p := of(id, withOptions(100 + d.under(300))[d.under(5)])
			wanted = append(wanted, p)
			list = append(list, divided(t, p, 68+d.under(30))...)
		}
		b, restored := fresh(t), map[int]bool{}
		for _, i := range shuffled(d, len(list)) {
			p, ok, e := b.j.Put(0, list[i])
			if e != api.OK || ok && !equal(p, wanted[p.Id]) {
				t.Fatalf("P20.4: %s, %t, %d", told(p), ok, e)
			}
			restored[p.Id] = restored[p.Id] || ok
		}
		for id := range wanted {
			if !restored[id] {
				t.Fatalf("P20.4: packet %d is not restored", id)
			}
		}
	}
}

// TestOthers puts fragments of one packet with and without those of up to fifteen
// others between: the answers are the same.
func TestOthers(t *testing.T) {
	d, done := &dice{15}, 0
	for range 100 {
		b, c := fresh(t), fresh(t)
		for range 300 {
			p := drawn(d, 0)
			q, ok, e := b.j.Put(0, p)
			c.answers(0, p, q, ok, e)
			if ok {
				done++
			}
			for range d.under(4) {
				c.j.Put(0, drawn(d, 1+d.under(7)))
			}
			if d.once(40) {
				list := b.j.Tick(60)
				all := slices.DeleteFunc(c.j.Tick(60), func(p api.Ip4) bool { return p.Id != 0 })
				if !slices.EqualFunc(list, all, equal) {
					t.Fatalf("P20.4: Tick tells %v with others, and %v without", ids(all), ids(list))
				}
			}
		}
	}
	if done < 1000 {
		t.Errorf("only %d packets are whole", done)
	}
}

// TestSameAgain makes the same calls on two joiners, in which a map may be gone
// through in two orders: the answers are the same.
func TestSameAgain(t *testing.T) {
	for range 50 {
		d, j, k := &dice{16}, join.New(), join.New()
		for range 400 {
			p := drawn(d, d.under(22))
			q, ok, e := j.Put(0, p)
			r, same, f := k.Put(0, p)
			if !equal(q, r) || ok != same || e != f {
				t.Fatalf("R2: Put of %s = %d and %d", told(p), e, f)
			}
			if d.once(100) && !slices.EqualFunc(j.Tick(60), k.Tick(60), equal) {
				t.Fatal("R2: Tick tells of two orders")
			}
		}
	}
}
