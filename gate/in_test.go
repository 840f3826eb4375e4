package gate_test

import (
	"bytes"
	"slices"
	"strings"
	"testing"

	"redoubt/api"
	"redoubt/ctr"
	"redoubt/esp"
	"redoubt/gate"
	"redoubt/mac"
)

// sealed is a protected packet with some content.
func sealed(t *testing.T, src string, dst string, sa api.Sa, seq uint64, data []byte, next int) api.Pack {
	t.Helper()
	b, e := esp.Seal(sa, seq, data, next)
	is(t, "Seal", e, api.OK)
	return api.Pack{Src: src, Dst: dst, Proto: 50, Ttl: 7, Id: 1234, Df: true, Data: b}
}

// forged are bytes with a valid tag, whatever is in them.
func forged(t *testing.T, sa api.Sa, seq uint64, inside []byte) []byte {
	t.Helper()
	number := func(n uint64, size int) []byte {
		b := make([]byte, size)
		for i := range b {
			b[i] = byte(n >> (8 * (size - 1 - i)))
		}
		return b
	}
	b := append(number(uint64(sa.Spi), 4), number(seq, 4)...)
	iv := number(seq, 8)
	body, e := ctr.Turn([]byte(sa.Key), []byte(sa.Salt), iv, inside)
	is(t, "Turn", e, api.OK)
	b = append(append(b, iv...), body...)
	high := number(seq>>32, 4)
	if !sa.Esn {
		high = nil
	}
	tag, e := mac.Tag([]byte(sa.Mac), b, high)
	is(t, "Tag", e, api.OK)
	return append(b, tag...)
}

// wired are the bytes of a packet.
func wired(t *testing.T, p api.Pack) []byte {
	t.Helper()
	b, e := gate.Wire(p)
	is(t, "Wire", e, api.OK)
	return b
}

// TestPlain has packets that are not protected come in under each action.
func TestPlain(t *testing.T) {
	for _, p := range []api.Pack{packet(one, two, "abc"), packet(one6, two6, "abc"), packet(one, two, "")} {
		fresh(t).refuses(0, p, api.ErrDiscard)
		for first := 1; first <= 3; first++ {
			for second := 1; second <= 3; second++ {
				other, out := rule(3, second), rule(3, second)
				other.Pick = proto(98)
				out.In = false
				g := fresh(t, other, out, rule(1, first), rule(2, second))
				g.live(0, life(256, false))
				switch first {
				case api.Bypass:
					g.gets(0, p, p)
				case api.Discard:
					g.refuses(0, p, api.ErrDiscard)
				case api.Protect:
					g.refuses(0, p, api.ErrSelector)
				}
			}
		}
	}
	g := fresh(t, tunnel(1, self, peer))
	g.refuses(0, packet(one, two, "abc"), api.ErrSelector)
	g.refuses(0, packet(peer, self, "abc"), api.ErrSelector)
	in := rule(1, api.Bypass)
	in.In = false
	other := rule(1, api.Bypass)
	other.Pick = proto(98)
	fresh(t, in, other).refuses(0, packet(one, two, "abc"), api.ErrDiscard)
}

// TestPlainProtocols has only the protocol 50 be taken for protected.
func TestPlainProtocols(t *testing.T) {
	g := fresh(t, rule(1, api.Bypass))
	for n := range 256 {
		p := packet(one, two, "abcd")
		p.Proto = n
		if n == 50 {
			g.refuses(0, p, api.ErrMore)
			continue
		}
		g.gets(0, p, p)
	}
}

// TestTransport has a packet come in without a tunnel.
func TestTransport(t *testing.T) {
	for _, end := range [][2]string{{one, two}, {one6, two6}, {self, peer}} {
		g := fresh(t, rule(1, api.Protect))
		l := life(256, false)
		g.live(0, l)
		for n := range 256 {
			p := sealed(t, end[0], end[1], l.Sa, uint64(n+1), []byte("abcdefgh"), n)
			q := p
			q.Proto, q.Data = n, []byte("abcdefgh")
			g.gets(0, p, q)
		}
		for i, p := range odd() { // the other fields stay as they are
			data := p.Data[:min(len(p.Data), 50)]
			p = sealed(t, end[0], end[1], l.Sa, uint64(i+300), data, 99)
			p.Ttl, p.Id, p.Df = odd()[i].Ttl, odd()[i].Id, odd()[i].Df
			q := p
			q.Proto, q.Data = 99, data
			g.gets(0, p, q)
		}
	}
}

// TestTunnel has packets of both versions come in by tunnels of both.
func TestTunnel(t *testing.T) {
	for _, far := range [][2]string{{self, peer}, {self6, peer6}} {
		for _, end := range [][2]string{{one, two}, {one6, two6}} {
			g := fresh(t, tunnel(1, far[0], far[1]))
			l := life(256, false)
			g.live(0, l)
			for n := range 256 {
				p := api.Pack{Src: end[0], Dst: end[1], Proto: n, Ttl: 255 - n, Id: n * 257, Df: n%2 == 1, Data: some(n+4, uint64(n))}
				next := 4
				if end[0] == one6 {
					next, p.Id, p.Df = 41, 0, false
				}
				if b, e := gate.Wire(p); e == api.OK {
					g.gets(0, sealed(t, far[1], far[0], l.Sa, uint64(n+1), b, next), p)
				}
			}
		}
	}
}

// TestShort has bytes that are too few, step by step.
func TestShort(t *testing.T) {
	g := fresh(t, rule(1, api.Protect))
	l := life(256, false)
	g.live(0, l)
	whole := sealed(t, one, two, l.Sa, 1, []byte("abcdef"), 99)
	for n := range whole.Data {
		p := whole
		p.Data = whole.Data[:n]
		want := api.ErrMore
		if n >= 36 {
			want = []api.Errno{api.ErrIcv, api.ErrForm, api.ErrForm, api.ErrForm}[n%4]
		}
		g.refuses(0, p, want)
	}
	for n := range 60 { // no association: that is told first, if there is a head
		p := api.Pack{Src: one, Dst: two, Proto: 50, Data: make([]byte, n)}
		want := api.ErrMore
		if n >= 8 {
			want = api.ErrNone
		}
		g.refuses(0, p, want)
	}
	p := whole
	p.Data = append(slices.Clone(whole.Data), 0, 0, 0, 0)
	g.refuses(0, p, api.ErrIcv)
	want := whole
	want.Proto, want.Data = 99, []byte("abcdef")
	g.gets(0, whole, want) // what was refused has taken no number
}

// TestEachByte alters each byte of a packet to each value: the packet comes in
// only as it was.
func TestEachByte(t *testing.T) {
	for _, r := range []api.Rule{rule(1, api.Protect), tunnel(1, self, peer)} {
		for _, esn := range []bool{false, true} {
			l := life(0x01020304, false)
			l.Sa.Esn = esn
			g := fresh(t, r)
			g.live(0, l)
			inner := packet(one, two, "abcdef")
			p := sealed(t, peer, self, l.Sa, 5, wired(t, inner), 4)
			if !r.Tunnel {
				p = sealed(t, one, two, l.Sa, 5, []byte("abcdef"), 99)
				inner = p
				inner.Proto, inner.Data = 99, []byte("abcdef")
			}
			for i := range p.Data {
				for x := 1; x < 256; x += 1 + i%7 {
					q := p
					q.Data = slices.Clone(p.Data)
					q.Data[i] ^= byte(x)
					want := api.ErrIcv
					if i < 4 {
						want = api.ErrNone
					}
					if i >= 4 && i < 8 && bytes.Equal(q.Data[4:8], []byte{0, 0, 0, 0}) {
						want = api.ErrReplay
					}
					g.refuses(0, q, want)
				}
			}
			g.gets(0, p, inner)
			g.refuses(0, p, api.ErrReplay)
		}
	}
}

// TestReplay has the same packets come twice and in another order.
func TestReplay(t *testing.T) {
	g := fresh(t, rule(1, api.Protect))
	l := life(256, false)
	g.live(0, l)
	p := func(seq uint64) (api.Pack, api.Pack) {
		p := sealed(t, one, two, l.Sa, seq, []byte("abc"), 99)
		q := p
		q.Proto, q.Data = 99, []byte("abc")
		return p, q
	}
	for _, x := range []struct {
		seq uint64
		ok  bool
	}{
		{5, true}, {5, false}, {100, true}, {36, false}, {37, true}, {37, false}, {99, true}, {100, false}, {101, true},
		{37, false}, {38, true}, {38, false}, {4294967295, true}, {4294967295, false}, {4294967232, true}, {4294967231, false}, {1, false},
	} {
		q, inner := p(x.seq)
		if x.ok {
			g.gets(0, q, inner)
		} else {
			g.refuses(0, q, api.ErrReplay)
		}
	}
}

// TestExtended has numbers of more than 32 bits.
func TestExtended(t *testing.T) {
	g := fresh(t, rule(1, api.Protect))
	l := life(256, false)
	l.Sa.Esn = true
	g.live(0, l)
	for _, seq := range []uint64{1, 1 << 31, 1<<32 - 1, 1 << 32, 1<<32 + 1, 1<<32 - 5, 3 << 31, 1<<33 - 1, 1<<33 + 7} {
		p := sealed(t, one, two, l.Sa, seq, []byte("abc"), 99)
		q := p
		q.Proto, q.Data = 99, []byte("abc")
		g.gets(0, p, q)
		g.refuses(0, p, api.ErrReplay)
	}
	// A packet far ahead is taken for one with another high half: its tag tells.
	g.refuses(0, sealed(t, one, two, l.Sa, 1<<40, []byte("abc"), 99), api.ErrIcv)
}

// TestLives has associations that there are not, or that count no longer.
func TestLives(t *testing.T) {
	g := fresh(t, rule(1, api.Protect))
	l := life(256, false)
	l.SoftTime, l.MostTime = 5, 10
	seq := uint64(0)
	next := func() (api.Pack, api.Pack) {
		seq++
		p := sealed(t, one, two, l.Sa, seq, []byte("abc"), 99)
		q := p
		q.Proto, q.Data = 99, []byte("abc")
		return p, q
	}
	p, q := next()
	g.refuses(0, p, api.ErrNone)
	g.live(0, life(256, true))
	g.refuses(0, p, api.ErrNone)
	g.live(100, l)
	g.gets(100, p, q)
	g.refuses(110, p, api.ErrHard)
	p, q = next()
	g.refuses(110, p, api.ErrHard)
	g.refuses(2000000000, p, api.ErrHard)
	g.gets(109, p, q)
	p, q = next()
	g.gets(0, p, q)
	g.die(256, false)
	g.refuses(100, p, api.ErrNone)
	g.live(100, l)
	g.gets(100, p, q)
	g.refuses(100, p, api.ErrReplay)
}

// TestTakenBytes has the decrypted bytes count, not those that came.
func TestTakenBytes(t *testing.T) {
	for _, r := range []api.Rule{rule(1, api.Protect), tunnel(1, self, peer)} {
		for d := -1; d <= 1; d++ {
			inner := packet(one, two, "0123456789")
			data, next := inner.Data, 99
			if r.Tunnel {
				data, next = wired(t, inner), 4
			}
			g := fresh(t, r)
			l := life(256, false)
			l.MostBytes = 2*len(data) + d
			g.live(0, l)
			for seq := uint64(1); seq <= 4; seq++ {
				p := sealed(t, peer, self, l.Sa, seq, data, next)
				if seq <= 2 || seq == 3 && d > 0 {
					if _, e := g.in(0, p); e != api.OK {
						t.Fatalf("P22.4: packet %d is refused: %d", seq, e)
					}
					continue
				}
				g.refuses(0, p, api.ErrHard)
			}
		}
	}
}

// TestRuleByName has rules by the name of the association's, of which the first
// that asks for protection of what comes in is the one.
func TestRuleByName(t *testing.T) {
	l := life(256, false)
	l.Rule = 7
	right := rule(7, api.Protect)
	p := sealed(t, one, two, l.Sa, 1, []byte("abc"), 99)
	inner := p
	inner.Proto, inner.Data = 99, []byte("abc")
	notIn, bypass, discard, other := rule(7, api.Protect), rule(7, api.Bypass), rule(7, api.Discard), rule(8, api.Protect)
	notIn.In = false
	away := func(r api.Rule) api.Rule { // a rule that is for other flows
		r.Pick = proto(98)
		return r
	}
	for _, x := range []struct {
		name  string
		rules []api.Rule
		want  api.Errno
	}{
		{"none", nil, api.ErrSelector},
		{"of another name", []api.Rule{other}, api.ErrSelector},
		{"not for what comes in", []api.Rule{notIn}, api.ErrSelector},
		{"bypass", []api.Rule{bypass}, api.ErrSelector},
		{"discard", []api.Rule{discard}, api.ErrSelector},
		{"right", []api.Rule{right}, api.OK},
		{"right behind one not for what comes in", []api.Rule{notIn, right}, api.OK},
		{"right behind bypass for other flows", []api.Rule{away(bypass), right}, api.OK},
		{"right behind discard for other flows", []api.Rule{away(discard), right}, api.OK},
		{"right behind another name for other flows", []api.Rule{away(other), right}, api.OK},
		{"right behind bypass", []api.Rule{bypass, right}, api.ErrSelector},
		{"right behind discard", []api.Rule{discard, right}, api.ErrSelector},
		{"right behind another name", []api.Rule{other, right}, api.ErrSelector},
		{"right before bypass", []api.Rule{right, bypass}, api.OK},
		{"right before discard", []api.Rule{right, discard, other, notIn}, api.OK},
		{"right twice", []api.Rule{right, right}, api.OK},
		{"by name, but for other flows", []api.Rule{away(right), right}, api.ErrSelector},
		{"by name, but for other flows, and no other", []api.Rule{away(right)}, api.ErrSelector},
		{"all others before", []api.Rule{away(other), notIn, away(bypass), away(discard), right, other}, api.OK},
	} {
		g := fresh(t, x.rules...)
		g.live(0, l)
		if q, e := g.in(0, p); e != x.want || e == api.OK && !equal(q, inner) {
			t.Errorf("P22.4: %s: In = %s, %d, want %d", x.name, told(q), e, x.want)
		}
		g.refuses(0, p, api.ErrReplay) // the number is taken in any case
	}
}

// TestSecondRule has the rule of the association not be the one at index 0.
func TestSecondRule(t *testing.T) {
	l := life(256, false)
	l.Rule = 2
	first, second := rule(1, api.Protect), rule(2, api.Protect)
	first.Pick, second.Pick = proto(98), proto(99)
	g := fresh(t, first, second)
	g.live(0, l)
	p := sealed(t, one, two, l.Sa, 1, []byte("abc"), 99)
	inner := p
	inner.Proto, inner.Data = 99, []byte("abc")
	g.gets(0, p, inner)
	g.refuses(0, sealed(t, one, two, l.Sa, 2, []byte("abc"), 98), api.ErrSelector)
	g.refuses(0, sealed(t, one, two, l.Sa, 3, []byte("abc"), 97), api.ErrSelector)
	// No rule at all is for the flow: that is not the one at index 0.
	g = fresh(t, second)
	g.live(0, l)
	g.refuses(0, sealed(t, one, two, l.Sa, 1, []byte("abc"), 97), api.ErrSelector)
}

// TestSelector has the flow of the inner packet be asked, as this side sees it.
func TestSelector(t *testing.T) {
	for _, tunnelled := range []bool{false, true} {
		r := rule(1, api.Protect)
		if tunnelled {
			r = tunnel(1, self, peer)
		}
		r.Pick.Here, r.Pick.There = api.Span{Low: one, High: one}, api.Span{Low: two, High: two}
		r.Pick.Proto = 17
		r.Pick.Near, r.Pick.Far = api.Ports{Low: 53, High: 53}, api.Ports{Low: 80, High: 80}
		g := fresh(t, r)
		l := life(256, false)
		g.live(0, l)
		for i, x := range []struct {
			src, dst string
			proto    int
			data     string
			want     api.Errno
		}{
			{two, one, 17, "\x00\x50\x00\x35", api.OK},
			{two, one, 17, "\x00\x50\x00\x35more", api.OK},
			{one, two, 17, "\x00\x35\x00\x50", api.ErrSelector},
			{two, one, 17, "\x00\x35\x00\x50", api.ErrSelector},
			{two, one, 17, "\x00\x51\x00\x35", api.ErrSelector},
			{two, one, 17, "\x00\x50\x00\x36", api.ErrSelector},
			{two, one, 6, "\x00\x50\x00\x35", api.ErrSelector},
			{two, three, 17, "\x00\x50\x00\x35", api.ErrSelector},
			{three, one, 17, "\x00\x50\x00\x35", api.ErrSelector},
			{two6, one6, 17, "\x00\x50\x00\x35", api.ErrSelector},
			{two, one, 17, "\x00\x50\x00", api.ErrMore},
			{two, one, 6, "", api.ErrMore},
			{two, one, 99, "", api.ErrSelector},
			{two, one, 17, "\x00\x50\x00\x35", api.OK},
		} {
			inner := api.Pack{Src: x.src, Dst: x.dst, Proto: x.proto, Ttl: 7, Id: 1234, Df: true, Data: []byte(x.data)}
			p := sealed(t, x.src, x.dst, l.Sa, uint64(i+1), inner.Data, x.proto)
			if tunnelled {
				next := 4
				if len(x.src) == 16 {
					next, inner.Id, inner.Df = 41, 0, false
				}
				p = sealed(t, peer, self, l.Sa, uint64(i+1), wired(t, inner), next)
			}
			if q, e := g.in(0, p); e != x.want || e == api.OK && !equal(q, inner) {
				t.Errorf("P22.4: %d: In = %s, %d, want %d", i, told(q), e, x.want)
			}
			g.refuses(0, p, api.ErrReplay)
		}
	}
}

// TestOuterDoesNotCount has only the inner packet of a tunnel meet the rules.
func TestOuterDoesNotCount(t *testing.T) {
	r, bypass, discard := tunnel(1, self, peer), rule(2, api.Bypass), rule(3, api.Discard)
	bypass.Pick.Here = api.Span{Low: self, High: self}
	discard.Pick = proto(50)
	g := fresh(t, bypass, discard, r)
	l := life(256, false)
	g.live(0, l)
	inner := packet(two, one, "abc")
	g.gets(0, sealed(t, peer, self, l.Sa, 1, wired(t, inner), 4), inner)
	inner = packet(two, self, "abc")
	g.refuses(0, sealed(t, peer, self, l.Sa, 2, wired(t, inner), 4), api.ErrSelector)
	inner = packet(two, one, "abc")
	inner.Proto = 50
	g.refuses(0, sealed(t, peer, self, l.Sa, 3, wired(t, inner), 4), api.ErrSelector)
}

// TestEnds has packets come from and to other ends than the tunnel's.
func TestEnds(t *testing.T) {
	ends := []string{"", "abc", one, two, self, peer, self6, peer6, self[:3], peer[:3] + "\x03", self + "\x00"}
	for _, far := range [][2]string{{self, peer}, {self6, peer6}, {peer, self}, {self, self}} {
		for _, src := range ends {
			for _, dst := range ends {
				g := fresh(t, tunnel(1, far[0], far[1]))
				l := life(256, false)
				g.live(0, l)
				inner := packet(two, one, "abc")
				p := sealed(t, src, dst, l.Sa, 1, wired(t, inner), 4)
				if src == far[1] && dst == far[0] {
					g.gets(0, p, inner)
				} else {
					g.refuses(0, p, api.ErrSelector)
				}
				g.refuses(0, p, api.ErrReplay)
			}
		}
	}
}

// TestNoAddresses has packets between what is no address come in without a tunnel.
func TestNoAddresses(t *testing.T) {
	for _, end := range [][2]string{{"", ""}, {one, one6}, {one6, one}, {"abc", "abc"}, {one, ""}} {
		g := fresh(t, rule(1, api.Protect))
		l := life(256, false)
		g.live(0, l)
		p := sealed(t, end[0], end[1], l.Sa, 1, []byte("abc"), 99)
		g.refuses(0, p, api.ErrArg)
		g.refuses(0, p, api.ErrReplay)
	}
}

// TestNextHeader has all next headers before bytes of all versions in a tunnel.
func TestNextHeader(t *testing.T) {
	g := fresh(t, tunnel(1, self, peer))
	l := life(256, false)
	g.live(0, l)
	seq := uint64(0)
	p4, p6 := packet(two, one, "abcdef"), packet(two6, one6, "abcdef")
	p6.Id = 0
	for next := range 256 {
		for version := range 16 {
			for i, b := range [][]byte{wired(t, p4), wired(t, p6), {0}, {}} {
				if len(b) > 0 {
					b[0] = b[0]&15 | byte(version)<<4
				}
				seq++
				p := sealed(t, peer, self, l.Sa, seq, b, next)
				named := next == 4 && version == 4 || next == 41 && version == 6
				switch {
				case !named || len(b) == 0:
					g.refuses(0, p, api.ErrSelector)
				case i == 0 && version == 4:
					g.gets(0, p, p4)
				case i == 1 && version == 6:
					g.gets(0, p, p6)
				case len(b) == 1:
					g.refuses(0, p, api.ErrMore)
				default:
					if _, e := g.in(0, p); e == api.OK {
						t.Errorf("P22.4: %x came in", b)
					}
				}
			}
		}
	}
}

// TestInnerErrors has inner bytes with each error of Unwire.
func TestInnerErrors(t *testing.T) {
	g := fresh(t, tunnel(1, self, peer))
	l := life(256, false)
	g.live(0, l)
	good4 := wired(t, packet(two, one, "abcdefgh"))
	good6 := wired(t, packet(two6, one6, "abcdefgh"))
	altered := func(b []byte, at int, x byte) []byte {
		b = slices.Clone(b)
		b[at] = x
		return b
	}
	for i, x := range []struct {
		b    []byte
		next int
		want api.Errno
	}{
		{good4[:19], 4, api.ErrMore}, {good4[:1], 4, api.ErrMore}, {good4[:27], 4, api.ErrMore},
		{append(slices.Clone(good4), 0), 4, api.ErrForm}, {altered(good4, 0, 0x44), 4, api.ErrForm},
		{altered(good4, 11, good4[11]^1), 4, api.ErrSum}, {altered(good4, 6, 0x80), 4, api.ErrForm},
		{encoded4(t, api.Ip4{Src: two, Dst: one, Proto: 99, Mf: true, Data: []byte("12345678")}), 4, api.ErrForm},
		{encoded4(t, api.Ip4{Src: two, Dst: one, Proto: 99, Off: 8, Data: []byte("12345678")}), 4, api.ErrForm},
		{encoded4(t, api.Ip4{Src: two, Dst: one, Proto: 99, Options: "\x01\x01\x01\x00"}), 4, api.ErrForm},
		{good6[:39], 41, api.ErrMore}, {good6[:1], 41, api.ErrMore}, {good6[:47], 41, api.ErrMore},
		{append(slices.Clone(good6), 0), 41, api.ErrForm}, {altered(good6, 6, 60), 41, api.ErrForm},
		{encoded6(t, api.Ip6{Src: two6, Dst: one6, Next: 99, Exts: []api.Ext{{Kind: 60, Data: "abcdef"}}}), 41, api.ErrForm},
	} {
		p := sealed(t, peer, self, l.Sa, uint64(i+1), x.b, x.next)
		g.refuses(0, p, x.want)
		g.refuses(0, p, api.ErrReplay)
		p = sealed(t, peer, self, l.Sa, uint64(i+1), x.b, 45-x.next) // the other version
		g.refuses(0, p, api.ErrReplay)
	}
}

// TestPadding has trailers that may not be, behind a tag that is valid.
func TestPadding(t *testing.T) {
	g := fresh(t, rule(1, api.Protect))
	l := life(256, false)
	g.live(0, l)
	for _, inside := range []string{"abcdef\x07\x63", "abcdef\x01\x63", "abc\x01\x02\x04\x03\x63", "\x00\x00\x03\x63"} {
		p := api.Pack{Src: one, Dst: two, Proto: 50, Data: forged(t, l.Sa, 5, []byte(inside))}
		g.refuses(0, p, api.ErrPad)
	}
	p := api.Pack{Src: one, Dst: two, Proto: 50, Data: forged(t, l.Sa, 5, []byte("abc\x01\x02\x03\x03\x63"))}
	inner := p
	inner.Proto, inner.Data = 99, []byte("abc")
	g.gets(0, p, inner) // no number was taken before
	g.refuses(0, p, api.ErrReplay)
}

// inFaults are faults of a packet that comes in, in the order of the steps, each
// with the error that tells it.
var inFaults = []struct {
	name string
	want api.Errno
}{
	{"no association", api.ErrNone},
	{"expired", api.ErrHard},
	{"number", api.ErrReplay},
	{"form", api.ErrForm},
	{"tag", api.ErrIcv},
	{"trailer", api.ErrPad},
	{"no rule", api.ErrSelector},
	{"ends", api.ErrSelector},
	{"next header", api.ErrSelector},
	{"fragment", api.ErrForm},
	{"short data", api.ErrMore},
	{"another rule", api.ErrSelector},
}

// faulty is a packet with a set of faults, and the gate that it comes to.
func faulty(t *testing.T, has func(i int) bool) (pair, api.Pack) {
	t.Helper()
	l := life(256, false)
	l.MostTime = 10
	g := fresh(t)
	if !has(6) {
		g.add(0, tunnel(1, self, peer))
	}
	if has(11) {
		g.add(0, rule(2, api.Protect))
	}
	if !has(0) {
		g.live(0, l)
	}
	inner := api.Ip4{Src: two, Dst: one, Proto: 17, Mf: has(9), Data: []byte("12345678")}
	if has(10) {
		inner.Data = inner.Data[:3]
	}
	inside := slices.Concat(encoded4(t, inner), []byte{0, 4})
	if has(8) {
		inside[len(inside)-1] = 41
	}
	for i := byte(1); len(inside)%4 != 0; i++ {
		inside = slices.Insert(inside, len(inside)-2, i)
		inside[len(inside)-2] = i
	}
	if has(5) {
		inside[len(inside)-2] = 200
	}
	seq := uint64(3)
	if has(2) {
		seq = 0
	}
	p := api.Pack{Src: peer, Dst: self, Proto: 50, Data: forged(t, l.Sa, seq, inside)}
	if has(7) {
		p.Dst = one
	}
	if has(4) {
		p.Data[len(p.Data)-1] ^= 1
	}
	if has(3) {
		p.Data = append(p.Data, 0)
	}
	return g, p
}

// TestInFaultsThatMeet asks with all sets of faults, of which the first is told.
// From the tag on, the number is taken.
func TestInFaultsThatMeet(t *testing.T) {
	for set := range 1 << len(inFaults) {
		has := func(i int) bool { return set>>i&1 == 1 }
		g, p := faulty(t, has)
		now := 0
		if has(1) {
			now = 10
		}
		want, first := api.OK, 0
		for first < len(inFaults) && !has(first) {
			first++
		}
		if first < len(inFaults) {
			want = inFaults[first].want
		}
		q, e := g.in(now, p)
		if e != want || e != api.OK && !equal(q, api.Pack{}) {
			t.Fatalf("P22.4: set %b: In = %s, %d, want %d", set, told(q), e, want)
		}
		if first >= 6 {
			g.refuses(now, p, api.ErrReplay)
			continue
		}
		if !has(0) { // the number is new still
			_, good := faulty(t, func(int) bool { return false })
			if _, e := g.in(0, good); e == api.ErrReplay {
				t.Fatalf("P22.4: set %b: the number of a packet that was refused is taken", set)
			}
		}
	}
}

// TestNested has protection inside of protection: a gate takes off one of them.
func TestNested(t *testing.T) {
	g := fresh(t, rule(1, api.Protect))
	l := life(256, false)
	g.live(0, l)
	first := sealed(t, one, two, l.Sa, 1, []byte("abc"), 99)
	second := sealed(t, one, two, l.Sa, 2, first.Data, 50)
	g.gets(0, second, first)
	inner := first
	inner.Proto, inner.Data = 99, []byte("abc")
	g.gets(0, first, inner)
}

// TestGreatest has the greatest packets come in.
func TestGreatest(t *testing.T) {
	g := fresh(t, tunnel(1, self, peer))
	l := life(256, false)
	g.live(0, l)
	for i, n := range []int{64946, 65000, 65440} {
		inner := packet(two, one, strings.Repeat("x", n))
		g.gets(0, sealed(t, peer, self, l.Sa, uint64(i+1), wired(t, inner), 4), inner)
	}
}

// TestManyAssociations has each packet be opened by its own.
func TestManyAssociations(t *testing.T) {
	var rules []api.Rule
	for name := range 16 {
		r := rule(name, api.Protect)
		r.Pick = proto(100 + name)
		rules = append(rules, r)
	}
	g := fresh(t, rules...)
	var lives []api.Life
	for name := range 16 {
		l := life(1000+name, false)
		l.Rule, l.Sa.Key = name, string(some(32, uint64(name)))
		g.live(0, l)
		lives = append(lives, l)
	}
	for i, l := range lives {
		for name := range 16 {
			p := sealed(t, one, two, l.Sa, uint64(name+1), []byte("abc"), 100+name)
			if name != i {
				g.refuses(0, p, api.ErrSelector) // it is not what its rule is for
				continue
			}
			inner := p
			inner.Proto, inner.Data = 100+name, []byte("abc")
			g.gets(0, p, inner)
		}
	}
	p := sealed(t, one, two, lives[3].Sa, 50, []byte("abc"), 103)
	p.Data[3]++ // to another association
	g.refuses(0, p, api.ErrIcv)
}
