package gate_test

import (
	"slices"
	"testing"

	"redoubt/api"
	"redoubt/esp"
)

// drawnRule is a rule that the dice choose.
func drawnRule(d *dice, name int) api.Rule {
	r := rule(name, d.of(1, 2, 3, 3, 3, 3))
	if r.Action == api.Protect && d.once(2) {
		r = tunnel(name, self, peer)
		if d.once(2) {
			r = tunnel(name, self6, peer6)
		}
	}
	if d.once(2) {
		r.Pick.Proto = d.of(-1, 6, 17, 99)
	}
	if d.once(3) {
		r.Pick.Here = api.Span{Low: d.text(one, two), High: d.text(two, three)}
	}
	if d.once(3) {
		r.Pick.There = api.Span{Low: d.text(one6, two6), High: d.text(two6, three6)}
	}
	if d.once(3) {
		r.Pick.Near = api.Ports{Low: d.under(3), High: 3 + d.under(3)}
	}
	if d.once(3) {
		r.Pick.Far = api.Ports{Low: d.under(3), High: 3 + d.under(3)}
	}
	if d.once(4) {
		r.Out, r.In = d.once(2), true
	}
	return r
}

// drawnLife is an association that the dice choose.
func drawnLife(d *dice, out bool) api.Life {
	l := life(256+d.under(6), out)
	l.Rule = d.under(6)
	l.Sa.Esn = d.once(2)
	if d.once(2) {
		l.SoftTime, l.MostTime = d.of(0, 20, 100), d.of(0, 40, 200)
	}
	if d.once(2) {
		l.SoftBytes, l.MostBytes = d.of(0, 500, 2000), d.of(0, 900, 4000)
	}
	return l
}

// drawnPacket is a packet that the dice choose, seldom one that is not right.
func drawnPacket(d *dice) api.Pack {
	p := api.Pack{
		Src: d.text(one, two, three), Dst: d.text(one, two, three), Proto: d.of(1, 6, 6, 17, 17, 99, 99, 50),
		Ttl: d.under(256), Id: d.under(65536), Df: d.once(2),
	}
	if d.once(2) {
		p.Src, p.Dst = d.text(one6, two6, three6), d.text(one6, two6, three6)
	}
	p.Data = some(d.of(4, 5, 6, 7, 8, d.under(100), 1200+d.under(300)), d.seed)
	if len(p.Data) >= 4 {
		copy(p.Data, []byte{0, byte(d.under(6)), 0, byte(d.under(6))})
	}
	if d.once(40) {
		p.Src = d.text(one, one6, "", "abc")
	}
	if d.once(40) {
		p.Ttl = d.of(-1, 256)
	}
	if d.once(40) {
		p.Proto = d.of(-1, 256, 0, 43, 44, 60)
	}
	return p
}

// altered is a packet that somebody on the way has altered, or not.
func altered(d *dice, p api.Pack) api.Pack {
	p.Data = slices.Clone(p.Data)
	switch d.under(6) {
	case 0:
		if len(p.Data) > 0 {
			p.Data[d.under(len(p.Data))] ^= byte(1 + d.under(255))
		}
	case 1:
		p.Data = p.Data[:d.under(len(p.Data)+1)]
	case 2:
		p.Src = d.text(one, self, peer, self6, peer6)
	case 3:
		p.Dst = d.text(one, self, peer, self6, peer6)
	case 4:
		p.Proto, p.Ttl, p.Id = d.of(50, 50, 99), d.under(300), d.under(70000)
	}
	return p
}

// crossing are two gates, and what was sent from one to the other.
type crossing struct {
	d    *dice
	g, h pair
	sent []api.Pack
	out  map[api.Errno]int
	in   map[api.Errno]int
}

// step makes one call that the dice choose, on both gates if it changes them.
func (c *crossing) step(now int) {
	d := c.d
	switch d.under(40) {
	case 0:
		if n := len(c.g.m.rules); n < 6 {
			r, at := drawnRule(d, d.under(6)), d.under(n+1)
			c.g.add(at, r)
			c.h.add(at, turned(r))
		}
	case 1:
		if n := len(c.g.m.rules); n > 1 {
			at := d.under(n)
			c.g.remove(at)
			c.h.remove(at)
		}
	case 2, 3:
		l := drawnLife(d, true)
		c.g.live(now, l)
		l.Out = false
		c.h.live(now, l)
	case 4:
		c.g.tell(now, d.text(one, two, peer, two6, peer6), 500+d.under(1200))
	case 5:
		spi := 256 + d.under(6)
		c.g.die(spi, true)
		if d.once(2) {
			c.h.die(spi, false)
		}
	default:
		c.pass(now)
	}
}

// pass sends a packet, and lets what was sent before arrive in some order, altered
// now and then.
func (c *crossing) pass(now int) {
	d := c.d
	q, _, e := c.g.out(now, drawnPacket(d), d.of(1500, 1400, 1280, 700))
	c.out[e]++
	if e == api.OK {
		c.sent = append(c.sent, q)
	}
	if len(c.sent) == 0 || d.once(10) {
		return
	}
	p := c.sent[len(c.sent)-1-d.under(min(len(c.sent), 4))]
	if d.once(4) {
		p = altered(d, p)
	}
	_, e = c.h.in(now, p)
	c.in[e]++
}

// TestWalks has two gates go on without a plain order beside their models.
func TestWalks(t *testing.T) {
	c := crossing{out: map[api.Errno]int{}, in: map[api.Errno]int{}}
	for seed := range uint64(300) {
		c.d, c.g, c.h, c.sent = &dice{seed}, fresh(t), fresh(t), nil
		for now := range 150 {
			c.step(now)
			c.step(now - c.d.under(20))
		}
	}
	for _, e := range []api.Errno{api.OK, api.ErrArg, api.ErrMore, api.ErrDiscard, api.ErrNoSa, api.ErrBig} {
		if c.out[e] < 20 {
			t.Errorf("P22.3: %d was told %d times", e, c.out[e])
		}
	}
	for _, e := range []api.Errno{api.OK, api.ErrArg, api.ErrMore, api.ErrForm, api.ErrDiscard, api.ErrSelector, api.ErrNone, api.ErrHard, api.ErrReplay, api.ErrIcv} {
		if c.in[e] < 20 {
			t.Errorf("P22.4: %d was told %d times", e, c.in[e])
		}
	}
}

// mirrored are two gates whose rules and associations mirror each other. The name
// of each rule is its own, and it has an association.
func mirrored(t *testing.T, d *dice) (pair, pair) {
	g, h := fresh(t), fresh(t)
	for name := range 1 + d.under(6) {
		r := drawnRule(d, name)
		r.Out, r.In = true, true
		g.add(name, r)
		h.add(name, turned(r))
		for _, out := range []bool{true, false} {
			l := life(300+2*name, out)
			if !out {
				l.Sa.Spi++
			}
			l.Rule, l.Sa.Esn, l.Sa.Key = name, d.once(2), string(some(16, d.seed))
			g.live(0, l)
			l.Out = !out
			h.live(0, l)
		}
	}
	return g, h
}

// sameAsSent is a packet as it comes in at the other gate: no encoding of IPv6
// has an Id or a Df, so that a tunnel drops them.
func sameAsSent(p api.Pack, r api.Rule) api.Pack {
	if r.Tunnel && len(p.Src) == 16 {
		p.Id, p.Df = 0, false
	}
	return p
}

// TestAcceptedOnce has what one gate sends come in at the other unchanged, and
// only once.
func TestAcceptedOnce(t *testing.T) {
	for seed := range uint64(200) {
		d := &dice{seed}
		g, h := mirrored(t, d)
		var passed []api.Pack
		for range 60 {
			from, to := g, h
			if d.once(2) {
				from, to = h, g
			}
			p := drawnPacket(d)
			if p.Proto == api.ProtoEsp {
				continue // under a rule that lets it pass by it looks protected
			}
			q, _, e := from.out(0, p, 1500)
			if e != api.OK {
				continue
			}
			f, _ := flowOf(p)
			r := from.m.rules[from.m.find(f, true)]
			to.gets(0, q, sameAsSent(p, r))
			if r.Action == api.Protect {
				to.refuses(0, q, api.ErrReplay)
				passed = append(passed, q)
			}
		}
		for _, q := range passed {
			for _, to := range []pair{g, h} {
				if r, e := to.in(0, q); e == api.OK {
					t.Fatalf("P22.5: %s comes in again as %s", told(q), told(r))
				}
			}
		}
	}
}

// flowOf is the flow of a packet that goes out.
func flowOf(p api.Pack) (api.Flow, bool) {
	f := api.Flow{Here: p.Src, There: p.Dst, Proto: p.Proto, Near: -1, Far: -1}
	if p.Proto == 6 || p.Proto == 17 {
		if len(p.Data) < 4 {
			return api.Flow{}, false
		}
		f.Near, f.Far = int(p.Data[0])<<8|int(p.Data[1]), int(p.Data[2])<<8|int(p.Data[3])
	}
	return f, true
}

// TestJustified has whatever goes out be what the first rule says, and fit into
// the path if it must not be fragmented.
func TestJustified(t *testing.T) {
	for seed := range uint64(200) {
		d := &dice{seed}
		g, _ := mirrored(t, d)
		g.tell(0, peer, 600+d.under(900))
		g.tell(0, peer6, 1280+d.under(200))
		for range 60 {
			p, link := drawnPacket(d), d.of(1500, 1400, 1300)
			q, _, e := g.out(0, p, link)
			if e != api.OK {
				continue
			}
			f, ok := flowOf(p)
			at := g.m.find(f, true)
			if !ok || at < 0 {
				t.Fatalf("P22.5: %s goes out as %s, but no rule is for it", told(p), told(q))
			}
			r := g.m.rules[at]
			if r.Action == api.Discard || r.Action == api.Bypass && !equal(p, q) || r.Action == api.Protect && q.Proto != 50 {
				t.Fatalf("P22.5: %s goes out as %s under %v", told(p), told(q), r)
			}
			if r.Action != api.Protect || !p.Df && len(p.Src) == 4 {
				continue
			}
			if mtu, _ := g.m.paths.Get(0, q.Dst, link); sizeOf(q) > mtu {
				t.Fatalf("P22.5: %s has %d bytes, the path has %d", told(q), sizeOf(q), mtu)
			}
		}
	}
}

// TestNoOther has nothing that is protected come in without its own key.
func TestNoOther(t *testing.T) {
	g := fresh(t, rule(1, api.Protect))
	l := life(256, false)
	g.live(0, l)
	for i := range 64 {
		sa := l.Sa
		key := []byte(sa.Mac)
		key[i%32] ^= byte(1 + i)
		sa.Mac = string(key)
		g.refuses(0, sealed(t, one, two, sa, uint64(i+1), []byte("abc"), 99), api.ErrIcv)
	}
	b, _ := esp.Seal(l.Sa, 1, []byte("abc"), 99)
	inner := packet(one, two, "abc")
	p := inner
	p.Proto, p.Data = 50, b
	g.gets(0, p, inner)
}

// TestTurns takes turns between gates, of which none knows of the others.
func TestTurns(t *testing.T) {
	d := &dice{7}
	var list []*crossing
	for range 3 {
		list = append(list, &crossing{d: d, g: fresh(t), h: fresh(t), out: map[api.Errno]int{}, in: map[api.Errno]int{}})
	}
	for now := range 3000 {
		list[d.under(3)].step(now / 4)
	}
}
