package gate_test

import (
	"bytes"
	"math"
	"strings"
	"testing"

	"redoubt/api"
	"redoubt/esp"
	"redoubt/gate"
)

// great is an MTU that hinders nothing.
const great = 1000000

// TestExample calls what the chapter's examples call.
func TestExample(t *testing.T) {
	p := packet(one, two, "abc")
	fresh(t).keeps(0, p, 1500, 0, api.ErrDiscard)
	g, h := fresh(t, rule(1, api.Protect)), fresh(t, rule(1, api.Protect))
	g.keeps(0, p, 1500, 0, api.ErrNoSa)
	g.live(0, life(256, true))
	h.live(0, life(256, false))
	q := g.sends(0, p, 1500)
	if q.Proto != 50 {
		t.Errorf("P22.3: the protocol is %d", q.Proto)
	}
	h.gets(0, q, p)
	h.refuses(0, q, api.ErrReplay)
}

func TestNilGate(t *testing.T) {
	var g *gate.Gate
	if g.Rules() != nil || g.Sas() != nil || g.Paths() != nil {
		t.Errorf("P22.2: a nil gate has something")
	}
	for _, p := range []api.Pack{{}, packet(one, two, "abc"), packet(one, two6, ""), {Src: one, Dst: two, Proto: 50}, {Src: one, Dst: two, Proto: -1}} {
		for _, n := range []int{0, 1500, -1, math.MinInt, math.MaxInt} {
			if q, m, e := g.Out(n, p, n); !equal(q, api.Pack{}) || m != 0 || e != api.ErrNil {
				t.Errorf("P22.2: Out = %s, %d, %d", told(q), m, e)
			}
			if q, e := g.In(n, p); !equal(q, api.Pack{}) || e != api.ErrNil {
				t.Errorf("P22.2: In = %s, %d", told(q), e)
			}
		}
	}
}

// TestNew has each gate come with its own, which it keeps.
func TestNew(t *testing.T) {
	g, h := gate.New(), gate.New()
	for _, x := range []*gate.Gate{g, h} {
		if x.Rules() == nil || len(x.Rules().List()) != 0 || x.Sas() == nil || len(x.Sas().List()) != 0 || x.Paths() == nil || x.Paths().Count() != 0 {
			t.Fatalf("P22.2: New is not empty")
		}
		if x.Rules() != x.Rules() || x.Sas() != x.Sas() || x.Paths() != x.Paths() {
			t.Errorf("P22.2: the gate does not keep what it has")
		}
	}
	g.Rules().Add(0, rule(1, api.Bypass))
	g.Sas().Add(0, life(256, true))
	g.Paths().Tell(0, one, 1400)
	if len(g.Rules().List()) != 1 || len(g.Sas().List()) != 1 || g.Paths().Count() != 1 {
		t.Errorf("P22.2: what is added is not there")
	}
	if len(h.Rules().List()) != 0 || len(h.Sas().List()) != 0 || h.Paths().Count() != 0 {
		t.Errorf("P22.2: what is added to one gate is in another one")
	}
}

// TestOutFlow asks with packets that have no flow, under rules of all kinds.
func TestOutFlow(t *testing.T) {
	for _, g := range []pair{fresh(t), fresh(t, rule(1, api.Discard)), fresh(t, rule(1, api.Bypass)), fresh(t, rule(1, api.Protect)), fresh(t, tunnel(1, self, peer))} {
		for a := range 20 {
			for b := range 20 {
				p := packet(strings.Repeat("a", a), strings.Repeat("b", b), "data")
				if a != b || a != 4 && a != 16 {
					g.keeps(0, p, great, 0, api.ErrArg)
					g.refuses(0, p, api.ErrArg)
				}
			}
		}
		for _, end := range [][2]string{{one, two}, {one6, two6}} {
			for _, n := range []int{-1, -50, 256, 306, math.MinInt, math.MaxInt} {
				p := packet(end[0], end[1], "data")
				p.Proto = n
				g.keeps(0, p, great, 0, api.ErrArg)
				g.refuses(0, p, api.ErrArg)
			}
			for _, n := range []int{6, 17} {
				for size := range 4 {
					p := packet(end[0], end[1], "data"[:size])
					p.Proto = n
					g.keeps(0, p, great, 0, api.ErrMore)
					g.refuses(0, p, api.ErrMore)
				}
			}
		}
	}
}

// TestFirstRule has every action before every other one.
func TestFirstRule(t *testing.T) {
	p := packet(one, two, "abc")
	for first := 1; first <= 3; first++ {
		for second := 1; second <= 3; second++ {
			for _, skipped := range []int{-1, api.Bypass, api.Discard, api.Protect} {
				g := fresh(t, rule(1, first), rule(2, second))
				if skipped > 0 { // rules that are not for the flow, for another reason each
					other := rule(3, skipped)
					other.Pick = proto(98)
					g.add(0, other)
					other = rule(3, skipped)
					other.Out = false
					g.add(0, other)
					other = rule(3, skipped)
					other.Pick.There = api.Span{Low: one, High: one}
					g.add(1, other)
				}
				switch first {
				case api.Discard:
					g.keeps(0, p, great, 0, api.ErrDiscard)
				case api.Protect:
					g.keeps(0, p, great, 0, api.ErrNoSa)
				case api.Bypass:
					if q := g.sends(0, p, great); !equal(q, p) {
						t.Errorf("P22.3: what passes by is altered: %s", told(q))
					}
				}
			}
		}
	}
}

// TestOutNoRule asks when no rule is for the packet.
func TestOutNoRule(t *testing.T) {
	for action := 1; action <= 3; action++ {
		in, other, far := rule(1, action), rule(1, action), rule(1, action)
		in.Out = false
		other.Pick = proto(17)
		far.Pick.Here = api.Span{Low: two, High: three}
		g := fresh(t, in, other, far)
		g.live(0, life(256, true))
		g.keeps(0, packet(one, two, "abc"), great, 0, api.ErrDiscard)
		g.keeps(0, packet(one6, two6, "abc"), great, 0, api.ErrDiscard)
	}
}

// TestPorts has the rule decide by the side from which a packet is seen.
func TestPorts(t *testing.T) {
	r := rule(1, api.Bypass)
	r.Pick.Here, r.Pick.There = api.Span{Low: one, High: one}, api.Span{Low: two, High: two}
	r.Pick.Near, r.Pick.Far = api.Ports{Low: 53, High: 53}, api.Ports{Low: 80, High: 80}
	for _, n := range []int{6, 17} {
		g := fresh(t, r)
		p := api.Pack{Src: one, Dst: two, Proto: n, Data: []byte("\x00\x35\x00\x50")}
		q := api.Pack{Src: two, Dst: one, Proto: n, Data: []byte("\x00\x50\x00\x35")}
		g.sends(0, p, great)
		g.keeps(0, q, great, 0, api.ErrDiscard)
		g.gets(0, q, q)
		g.refuses(0, p, api.ErrDiscard)
	}
}

// odd are packets whose numbers no encoding has.
func odd() []api.Pack {
	var list []api.Pack
	for _, end := range [][2]string{{one, two}, {one6, two6}} {
		for _, n := range []int{-1, 0, 255, 256, 65535, 65536, math.MinInt, math.MaxInt} {
			for _, size := range []int{0, 1, 2000, 70000} {
				p := packet(end[0], end[1], strings.Repeat("x", size))
				p.Ttl, p.Id, p.Df = n, n/3, n%2 == 0
				list = append(list, p)
			}
		}
	}
	return list
}

// TestBypass has what passes by stay as it is, whatever it is.
func TestBypass(t *testing.T) {
	g := fresh(t, rule(1, api.Bypass))
	g.live(0, life(256, true))
	g.tell(0, two, 600)
	for _, p := range odd() {
		for _, link := range []int{-1, 0, 68, 1500} {
			if q := g.sends(0, p, link); !equal(q, p) {
				t.Errorf("P22.3: %s passes by as %s", told(p), told(q))
			}
		}
		g.gets(0, p, p)
		p.Proto = 50
		if q := g.sends(0, p, 0); !equal(q, p) {
			t.Errorf("P22.3: %s passes by as %s", told(p), told(q))
		}
	}
}

// TestFields has the fields of what goes out under a rule without a tunnel.
func TestFields(t *testing.T) {
	for _, end := range [][2]string{{one, two}, {one6, two6}} {
		g := fresh(t, rule(1, api.Protect))
		l := life(256, true)
		g.live(0, l)
		for seq := uint64(1); seq < 2000; seq++ {
			d := &dice{seq}
			p := packet(end[0], end[1], string(some(d.under(40)+4, seq)))
			p.Proto, p.Df, p.Ttl, p.Id = d.under(256), d.once(2), d.of(-1, 0, 1, 64, 255, 256, math.MinInt), d.of(-1, 0, 65535, 65536, math.MaxInt)
			data, e := esp.Seal(l.Sa, seq, p.Data, p.Proto)
			is(t, "Seal", e, api.OK)
			want := api.Pack{Src: p.Src, Dst: p.Dst, Proto: 50, Ttl: p.Ttl, Id: p.Id, Df: p.Df, Data: data}
			if q := g.sends(0, p, great); !equal(q, want) {
				t.Fatalf("P22.3: %s goes out as %s, want %s", told(p), told(q), told(want))
			}
		}
	}
}

// TestTunnelFields has the fields of what goes out by a tunnel.
func TestTunnelFields(t *testing.T) {
	for _, end := range [][2]string{{one, two}, {one6, two6}} {
		for _, far := range [][2]string{{self, peer}, {self6, peer6}} {
			g := fresh(t, tunnel(1, far[0], far[1]))
			l := life(256, true)
			g.live(0, l)
			for seq := uint64(1); seq < 1000; seq++ {
				d := &dice{seq}
				p := packet(end[0], end[1], string(some(d.under(40)+4, seq)))
				p.Proto, p.Df, p.Ttl, p.Id = d.of(1, 4, 6, 17, 41, 50, 58, 255), d.once(2), d.under(256), d.under(65536)
				inner, e := gate.Wire(p)
				is(t, "Wire", e, api.OK)
				next, df := 4, p.Df
				if end[0] == one6 {
					next, df = 41, true
				}
				data, e := esp.Seal(l.Sa, seq, inner, next)
				is(t, "Seal", e, api.OK)
				want := api.Pack{Src: far[0], Dst: far[1], Proto: 50, Ttl: 64, Id: int(seq), Df: df, Data: data}
				if q := g.sends(0, p, great); !equal(q, want) {
					t.Fatalf("P22.3: %s goes out as %s, want %s", told(p), told(q), told(want))
				}
			}
		}
	}
}

// TestTunnelWire asks with packets that have no encoding: a tunnel needs one.
func TestTunnelWire(t *testing.T) {
	for _, far := range [][2]string{{self, peer}, {self6, peer6}} {
		g, h := fresh(t, tunnel(1, far[0], far[1])), fresh(t, rule(1, api.Protect))
		g.live(0, life(256, true))
		h.live(0, life(256, true))
		for _, end := range [][2]string{{one, two}, {one6, two6}} {
			p := packet(end[0], end[1], "abc")
			for _, n := range []int{-1, 256, math.MaxInt} {
				q := p
				q.Ttl = n
				g.keeps(0, q, great, 0, api.ErrArg)
				h.sends(0, q, great)
			}
			for _, n := range []int{-1, 65536, math.MaxInt} {
				q := p
				q.Id = n
				h.sends(0, q, great)
				if end[0] == one {
					g.keeps(0, q, great, 0, api.ErrArg)
				} else {
					g.sends(0, q, great)
				}
			}
			for _, n := range []int{0, 43, 44, 60} {
				q := p
				q.Proto = n
				h.sends(0, q, great)
				if end[0] == one {
					g.sends(0, q, great)
				} else {
					g.keeps(0, q, great, 0, api.ErrArg)
				}
			}
			p.Data = make([]byte, 65536)
			g.keeps(0, p, great, 0, api.ErrLong)
		}
	}
}

// overhead is how much room ESP needs beside a header, where n bytes are sealed.
func overhead(n int) int { return 4 + 4 + 8 + (n+2+3)/4*4 - n + 16 }

// TestSizes asks with packets of just the greatest size that fits, one byte less
// and one more, by links of some MTUs.
func TestSizes(t *testing.T) {
	for _, end := range [][2]string{{one, two}, {one6, two6}} {
		head := map[int]int{4: 20, 16: 40}[len(end[0])]
		for _, r := range []api.Rule{rule(1, api.Protect), tunnel(1, self, peer), tunnel(1, self6, peer6)} {
			outer := head
			if r.Tunnel {
				outer = map[int]int{4: 20, 16: 40}[len(r.Self)]
			}
			g := fresh(t, r)
			g.live(0, life(256, true))
			for _, mtu := range []int{576, 577, 578, 579, 580, 1280, 1281, 1282, 1283, 1500, 9000} {
				most := 0 // the greatest packet that fits, by the layout of ESP
				for n := range mtu {
					inner := n
					if !r.Tunnel {
						inner = n - head
					}
					if inner >= 0 && outer+inner+overhead(inner) <= mtu {
						most = n
					}
				}
				for d := -3; d <= 3; d++ {
					for _, df := range []bool{false, true} {
						p := packet(end[0], end[1], strings.Repeat("x", most+d-head))
						p.Df = df
						if d > 0 && (df || head == 40) {
							g.keeps(0, p, mtu, most, api.ErrBig)
							continue
						}
						q := g.sends(0, p, mtu)
						if (df || head == 40) && outer+len(q.Data) > mtu {
							t.Errorf("P22.5: %d bytes go out by a link of %d", outer+len(q.Data), mtu)
						}
						if d == 0 && outer+len(q.Data) < mtu-3 {
							t.Errorf("P22.3: %d bytes go out by a link of %d, more would fit", outer+len(q.Data), mtu)
						}
					}
				}
			}
		}
	}
}

// TestSmallLinks asks with links by which nothing goes, or nearly nothing.
func TestSmallLinks(t *testing.T) {
	for _, end := range [][2]string{{one, two}, {one6, two6}} {
		for _, r := range []api.Rule{rule(1, api.Protect), tunnel(1, self, peer), tunnel(1, self6, peer6)} {
			g := fresh(t, r)
			g.live(0, life(256, true))
			p := packet(end[0], end[1], "")
			q := g.sends(0, packet(one, two, ""), 0) // it may be fragmented
			if q.Df {
				t.Errorf("P22.3: Df is set: %s", told(q))
			}
			p.Df = true
			for _, link := range []int{-2147483648, -1, 0, 1, 20, 40, 55} {
				g.keeps(0, p, link, 0, api.ErrBig)
			}
			for link := 56; link < 140; link++ {
				g.out(0, p, link)
			}
		}
	}
	g := fresh(t, rule(1, api.Protect))
	g.live(0, life(256, true))
	p := packet(one, two, "")
	p.Df = true
	g.keeps(0, p, 55, 0, api.ErrBig)
	g.sends(0, p, 56)
	p = packet(one6, two6, "")
	g.keeps(0, p, 75, 0, api.ErrBig)
	g.sends(0, p, 76)
}

// TestToldPath asks with paths that were told about, and for how long they count.
func TestToldPath(t *testing.T) {
	for _, end := range [][2]string{{one, two}, {one6, two6}} {
		p := packet(end[0], end[1], strings.Repeat("x", 1330))
		p.Df = true
		for _, r := range []api.Rule{rule(1, api.Protect), tunnel(1, self, peer), tunnel(1, self6, peer6)} {
			dst := end[1]
			if r.Tunnel {
				dst = r.Peer
			}
			g := fresh(t, r)
			g.live(0, life(256, true))
			for _, other := range []string{one, two, three, self, peer, one6, two6, three6, self6, peer6} {
				if other != dst {
					g.tell(0, other, 1290)
				}
			}
			g.sends(0, p, 1500)
			g.tell(0, dst, 1300)
			_, most, e := g.out(599, p, 1500)
			is(t, "P22.3: Out", e, api.ErrBig)
			g.keeps(0, p, 1300, most, api.ErrBig)
			g.sends(600, p, 1500)
			fits := p
			fits.Data = p.Data[:most-(sizeOf(p)-len(p.Data))]
			g.sends(599, fits, 1500)
			g.sends(599, fits, 1300)
			if _, n, e := g.out(599, fits, 1290); n >= most || e != api.ErrBig {
				t.Errorf("P22.3: by a smaller link Out = %d, %d", n, e)
			}
			if end[0] == one {
				p.Df = false
				g.sends(599, p, 1500)
				p.Df = true
			}
		}
	}
}

// TestLength asks with just as many bytes as may be sealed, and more.
func TestLength(t *testing.T) {
	for _, end := range [][2]string{{one, two}, {one6, two6}} {
		head := map[int]int{4: 20, 16: 40}[len(end[0])]
		for _, r := range []api.Rule{rule(1, api.Protect), tunnel(1, self, peer), tunnel(1, self6, peer6)} {
			most := 64966
			if r.Tunnel {
				most -= head
			}
			g := fresh(t, r)
			g.live(0, life(256, true))
			for _, d := range []int{-4, -3, 0} {
				size := 65000
				if d == -4 {
					size = 64996
				}
				if q := g.sends(0, packet(end[0], end[1], strings.Repeat("x", most+d)), great); len(q.Data) != size {
					t.Errorf("P22.3: %d bytes are sealed to %d", most+d, len(q.Data))
				}
			}
			for _, d := range []int{1, 2, 3, 4, 5, 500} {
				p := packet(end[0], end[1], strings.Repeat("x", most+d))
				g.keeps(0, p, great, 0, api.ErrLong)
				p.Df = true
				g.keeps(0, p, great, 0, api.ErrLong)
			}
			_, seq, e := g.g.Sas().Send(0, 256, 0)
			if seq != 4 || e != api.OK {
				t.Errorf("P22.3: the next number is %d, %d, want 4", seq, e)
			}
		}
	}
}

// TestTunnelLongWire asks for the end of what an encoding may have before the end
// of what may be sealed.
func TestTunnelLongWire(t *testing.T) {
	g := fresh(t, tunnel(1, self, peer), rule(2, api.Protect))
	g.live(0, life(256, true))
	for _, n := range []int{64947, 65515, 65516, 65535, 65536, 100000} {
		g.keeps(0, packet(one, two, strings.Repeat("x", n)), great, 0, api.ErrLong)
		p := packet(one, two, strings.Repeat("x", n))
		p.Df = true
		want, most := api.ErrBig, 1446
		if n > 65515 { // the encoding fails before the path is asked about
			want, most = api.ErrLong, 0
		}
		g.keeps(0, p, 1500, most, want)
	}
}

// outFaults are faults of a packet that goes out, in the order of the steps, each
// with the error that tells it.
var outFaults = []struct {
	name string
	want api.Errno
}{
	{"addresses", api.ErrArg},
	{"short data", api.ErrMore},
	{"no rule", api.ErrDiscard},
	{"no association", api.ErrNoSa},
	{"encoding", api.ErrArg},
	{"too big", api.ErrBig},
	{"too long", api.ErrLong},
}

// TestOutFaultsThatMeet asks with all sets of faults.
func TestOutFaultsThatMeet(t *testing.T) {
	for set := range 1 << len(outFaults) {
		has := func(i int) bool { return set>>i&1 == 1 }
		if has(1) && has(6) {
			continue // data are not short and long at once
		}
		for _, r := range []api.Rule{tunnel(1, self, peer), rule(1, api.Protect)} {
			g := fresh(t)
			p, link := packet(one, two, "1234 and more"), 60000
			p.Proto, p.Df = 17, true
			if has(0) {
				p.Src = one6
			}
			if has(1) {
				p.Data = []byte("123")
			}
			if !has(2) {
				g.add(0, r)
			}
			if !has(3) {
				g.live(0, life(256, true))
			}
			if has(4) {
				p.Ttl = 256
			}
			if has(6) {
				p.Data, link = make([]byte, 65000), great
			}
			if has(5) {
				link = 40
			}
			want := api.OK
			for i, f := range outFaults {
				if want == api.OK && has(i) && (i != 4 || r.Tunnel) {
					want = f.want
				}
			}
			if want == api.OK {
				g.sends(0, p, link)
				continue
			}
			g.keeps(0, p, link, 0, want)
		}
	}
}

// TestBigNumber has the number beside ErrBig, and 0 beside all else.
func TestBigNumber(t *testing.T) {
	for _, x := range []struct {
		r    api.Rule
		src  string
		dst  string
		most int
	}{
		{rule(1, api.Protect), one, two, 1466}, {rule(1, api.Protect), one6, two6, 1466},
		{tunnel(1, self, peer), one, two, 1446}, {tunnel(1, self, peer), one6, two6, 1446},
		{tunnel(1, self6, peer6), one, two, 1426}, {tunnel(1, self6, peer6), one6, two6, 1426},
	} {
		g := fresh(t, x.r)
		g.live(0, life(256, true))
		p := packet(x.src, x.dst, strings.Repeat("x", 1480))
		p.Df = true
		g.keeps(0, p, 1500, x.most, api.ErrBig)
		p.Data = p.Data[:100]
		g.sends(0, p, 1500)
	}
}

// opened opens what went out, and wants its sequence number.
func opened(t *testing.T, q api.Pack, sa api.Sa, seq uint64) {
	t.Helper()
	spi, low, e := esp.Peek(q.Data)
	if spi != sa.Spi || uint64(low) != seq&(1<<32-1) || e != api.OK {
		t.Fatalf("P22.3: Spi %d and number %d went out, %d, want %d and %d", spi, low, e, sa.Spi, seq)
	}
	if _, _, e := esp.Open(sa, seq, q.Data); e != api.OK {
		t.Fatalf("P22.3: what went out is not opened with the number %d: %d", seq, e)
	}
}

// TestNumbers has each packet go out with the next number, also behind packets
// that did not.
func TestNumbers(t *testing.T) {
	for _, r := range []api.Rule{rule(1, api.Protect), tunnel(1, self, peer)} {
		for _, esn := range []bool{false, true} {
			l := life(256, true)
			l.Sa.Esn = esn
			other := rule(2, api.Protect)
			other.Pick = proto(98)
			g := fresh(t, other, r)
			g.live(0, l)
			big := packet(one, two, strings.Repeat("x", 2000))
			big.Df = true
			for seq := uint64(1); seq < 200; seq++ {
				switch seq % 6 {
				case 0:
					g.keeps(0, big, 1500, mostOf(r), api.ErrBig)
				case 1:
					g.keeps(0, packet(one, two, strings.Repeat("x", 65000)), 1500, 0, api.ErrLong)
				case 2:
					g.keeps(0, packet(one, two6, ""), 1500, 0, api.ErrArg)
				case 3:
					p := packet(one, two, "abc")
					p.Proto = 98
					g.keeps(0, p, 1500, 0, api.ErrNoSa)
				case 4:
					p := packet(one, two, "abc")
					p.Proto = 17
					g.keeps(0, p, 1500, 0, api.ErrMore)
				}
				q := g.sends(0, packet(one, two, "abc"), 1500)
				opened(t, q, l.Sa, seq)
				if r.Tunnel && q.Id != int(seq) {
					t.Fatalf("P22.3: the Id of number %d is %d", seq, q.Id)
				}
			}
		}
	}
}

// mostOf is the greatest packet that fits into 1500 bytes under a rule.
func mostOf(r api.Rule) int {
	if r.Tunnel {
		return 1446
	}
	return 1466
}

// TestIdGoesRound sends as often as there are Ids.
func TestIdGoesRound(t *testing.T) {
	g := fresh(t, tunnel(1, self, peer))
	g.live(0, life(256, true))
	skip := func(n int) {
		for range n {
			g.g.Sas().Send(0, 256, 0)
			g.m.sas.Send(0, 256, 0)
		}
	}
	p := packet(one, two, "abc")
	for _, x := range []struct{ skip, want int }{{0, 1}, {253, 255}, {0, 256}, {0, 257}, {65277, 65535}, {0, 0}, {0, 1}, {0, 2}, {65533, 0}, {0, 1}} {
		skip(x.skip)
		if q := g.sends(0, p, 1500); q.Id != x.want {
			t.Errorf("P22.3: the Id is %d, want %d", q.Id, x.want)
		}
	}
}

// TestAssociations has the association by which a rule sends.
func TestAssociations(t *testing.T) {
	p := packet(one, two, "abc")
	spi := func(g pair, now int) int {
		t.Helper()
		n, _, e := esp.Peek(g.sends(now, p, 1500).Data)
		is(t, "Peek", e, api.OK)
		return n
	}
	want := func(g pair, now int, want int) {
		t.Helper()
		if got := spi(g, now); got != want {
			t.Fatalf("P22.3: at %d the Spi is %d, want %d", now, got, want)
		}
	}
	g := fresh(t, rule(1, api.Protect))
	g.live(0, life(256, false)) // inbound
	other := life(257, true)
	other.Rule = 2
	g.live(0, other)
	g.keeps(0, p, 1500, 0, api.ErrNoSa)
	first := life(258, true)
	first.SoftTime, first.MostTime = 100, 200
	g.live(0, first)
	second := life(259, true)
	second.SoftBytes, second.MostBytes = 6, 9
	g.live(0, second)
	third := life(260, true)
	third.SoftTime, third.MostTime = 1, 400
	g.live(0, third)
	want(g, 0, 258)
	want(g, 99, 258)
	want(g, 100, 259)
	want(g, 100, 259)
	want(g, 100, 260) // six bytes went by 259, all are to be replaced: the last one
	want(g, 399, 260)
	want(g, 99, 258)
	g.die(258, true)
	want(g, 400, 259)
	g.keeps(400, p, 1500, 0, api.ErrNoSa)
	want(g, 399, 260)
	g.die(260, true)
	g.keeps(0, p, 1500, 0, api.ErrNoSa)
	g.live(0, life(261, true))
	want(g, 0, 261)
}

// TestRuleName has the association by the name of the rule that decides.
func TestRuleName(t *testing.T) {
	var rules []api.Rule
	for name := range 10 {
		r := rule(name, api.Protect)
		r.Pick = proto(100 + name)
		rules = append(rules, r)
	}
	g := fresh(t, rules...)
	for name := range 10 {
		l := life(300+name, true)
		l.Rule = name
		g.live(0, l)
	}
	for name := range 10 {
		p := packet(one, two, "abc")
		p.Proto = 100 + name
		spi, _, _ := esp.Peek(g.sends(0, p, 1500).Data)
		if spi != 300+name {
			t.Errorf("P22.3: under the rule %d the Spi is %d", name, spi)
		}
	}
}

// TestSentBytes has the inner bytes count, not those that are sealed.
func TestSentBytes(t *testing.T) {
	for _, x := range []struct {
		r     api.Rule
		src   string
		dst   string
		bytes int
	}{
		{rule(1, api.Protect), one, two, 10}, {rule(1, api.Protect), one6, two6, 10},
		{tunnel(1, self, peer), one, two, 30}, {tunnel(1, self, peer), one6, two6, 50},
		{tunnel(1, self6, peer6), one, two, 30}, {tunnel(1, self6, peer6), one6, two6, 50},
	} {
		for d := -1; d <= 1; d++ {
			g := fresh(t, x.r)
			l := life(256, true)
			l.MostBytes = 2*x.bytes + d
			g.live(0, l)
			p := packet(x.src, x.dst, "0123456789")
			g.sends(0, p, 1500)
			g.sends(0, p, 1500)
			if d > 0 {
				g.sends(0, p, 1500)
			}
			g.keeps(0, p, 1500, 0, api.ErrNoSa)
		}
	}
}

// TestSealed has all keys and kinds of associations seal.
func TestSealed(t *testing.T) {
	for i := range 200 {
		d := &dice{uint64(i)}
		l := life(256+d.under(1<<32-256), true)
		l.Sa.Key, l.Sa.Salt, l.Sa.Mac = string(some(d.of(16, 32), d.seed)), string(some(4, d.seed)), string(some(32, d.seed))
		l.Sa.Esn = d.once(2)
		g := fresh(t, rule(1, api.Protect))
		g.live(0, l)
		p := packet(one, two, string(some(d.under(100), d.seed)))
		q := g.sends(0, p, great)
		data, next, e := esp.Open(l.Sa, 1, q.Data)
		if !bytes.Equal(data, p.Data) || next != 99 || e != api.OK {
			t.Fatalf("P22.3: %s is opened as %x, %d, %d", told(p), data, next, e)
		}
	}
}

// TestProtocols has packets of every protocol go out with it as what comes next.
func TestProtocols(t *testing.T) {
	g := fresh(t, rule(1, api.Protect))
	l := life(256, true)
	g.live(0, l)
	for n := range 256 {
		p := packet(one, two, "abcd")
		p.Proto = n
		q := g.sends(0, p, 1500)
		if _, next, e := esp.Open(l.Sa, uint64(n+1), q.Data); next != n || e != api.OK {
			t.Errorf("P22.3: protocol %d goes out as %d, %d", n, next, e)
		}
	}
}

// TestOutTimes has the time that is passed count, even if it is an earlier one.
func TestOutTimes(t *testing.T) {
	g := fresh(t, rule(1, api.Protect))
	l := life(256, true)
	l.MostTime = 10
	g.live(5, l)
	for _, now := range []int{5, 14, 15, 14, 2000000000, 0, -1, -2000000000, 16, 5} {
		if now >= 15 {
			g.keeps(now, packet(one, two, "abc"), 1500, 0, api.ErrNoSa)
			continue
		}
		g.sends(now, packet(one, two, "abc"), 1500)
	}
}
