package gate_test

import (
	"bytes"
	"fmt"
	"strings"
	"testing"

	"redoubt/api"
	"redoubt/esp"
	"redoubt/gate"
	"redoubt/ip4"
	"redoubt/ip6"
	"redoubt/pick"
	"redoubt/pmtu"
	"redoubt/sad"
)

// Addresses of both versions.
const (
	one   = "\x0a\x00\x00\x01"
	two   = "\x0a\x00\x00\x02"
	three = "\x0a\x00\x00\x03"
	self  = "\xc0\xa8\x00\x01"
	peer  = "\xc0\xa8\x00\x02"

	one6   = "\x20\x01\x0d\xb8\x00\x00\x00\x00\x00\x00\x00\x00\x00\x00\x00\x01"
	two6   = "\x20\x01\x0d\xb8\x00\x00\x00\x00\x00\x00\x00\x00\x00\x00\x00\x02"
	three6 = "\x20\x01\x0d\xb8\x00\x00\x00\x00\x00\x00\x00\x00\x00\x00\x00\x03"
	self6  = "\xfd\x00\x00\x00\x00\x00\x00\x00\x00\x00\x00\x00\x00\x00\x00\x01"
	peer6  = "\xfd\x00\x00\x00\x00\x00\x00\x00\x00\x00\x00\x00\x00\x00\x00\x02"
)

// dice are numbers without a plain order, the same in each run.
type dice struct{ seed uint64 }

// under is a number from 0 to n - 1.
func (d *dice) under(n int) int {
	d.seed = d.seed*6364136223846793005 + 1442695040888963407
	return int(d.seed >> 33 % uint64(n))
}

// once is true once in n times.
func (d *dice) once(n int) bool { return d.under(n) == 0 }

// of is one of some numbers.
func (d *dice) of(list ...int) int { return list[d.under(len(list))] }

// text is one of some texts.
func (d *dice) text(list ...string) string { return list[d.under(len(list))] }

// some are n bytes without a plain order.
func some(n int, seed uint64) []byte {
	d, b := dice{seed}, make([]byte, n)
	for i := range b {
		b[i] = byte(d.under(256))
	}
	return b
}

// all is the selector that is for every flow.
func all() api.Pick {
	return api.Pick{Proto: -1, Near: api.Ports{High: 65535}, Far: api.Ports{High: 65535}}
}

// proto is the selector of a protocol.
func proto(n int) api.Pick {
	p := all()
	p.Proto = n
	return p
}

// rule is a rule for every flow in both directions.
func rule(name int, action int) api.Rule {
	return api.Rule{Name: name, Pick: all(), Out: true, In: true, Action: action}
}

// tunnel is a rule that asks for a tunnel.
func tunnel(name int, self string, peer string) api.Rule {
	r := rule(name, api.Protect)
	r.Tunnel, r.Self, r.Peer = true, self, peer
	return r
}

// turned is a rule as the other side has it.
func turned(r api.Rule) api.Rule {
	r.Pick.Here, r.Pick.There = r.Pick.There, r.Pick.Here
	r.Pick.Near, r.Pick.Far = r.Pick.Far, r.Pick.Near
	r.Out, r.In = r.In, r.Out
	r.Self, r.Peer = r.Peer, r.Self
	return r
}

// life is an association for rule 1 without limits.
func life(spi int, out bool) api.Life {
	return api.Life{
		Sa:   api.Sa{Spi: spi, Key: "0123456789abcdef", Salt: "salt", Mac: strings.Repeat("mac!", 8), Window: 64},
		Rule: 1,
		Out:  out,
	}
}

// packet is a packet between two addresses.
func packet(src string, dst string, data string) api.Pack {
	return api.Pack{Src: src, Dst: dst, Proto: 99, Ttl: 9, Id: 5, Data: []byte(data)}
}

// equal holds two packets against each other.
func equal(p api.Pack, q api.Pack) bool {
	return p.Src == q.Src && p.Dst == q.Dst && p.Proto == q.Proto && p.Ttl == q.Ttl &&
		p.Id == q.Id && p.Df == q.Df && bytes.Equal(p.Data, q.Data)
}

// told is a packet in a message.
func told(p api.Pack) string {
	data := fmt.Sprintf("%x", p.Data)
	if len(p.Data) > 100 {
		data = fmt.Sprintf("%x.. (%d bytes)", p.Data[:100], len(p.Data))
	}
	return fmt.Sprintf("{%x to %x, proto %d, ttl %d, id %d, df %t, %s}", p.Src, p.Dst, p.Proto, p.Ttl, p.Id, p.Df, data)
}

// is wants an error.
func is(t *testing.T, what string, got api.Errno, want api.Errno) {
	t.Helper()
	if got != want {
		t.Fatalf("%s = %d, want %d", what, got, want)
	}
}

// model is a gate by the words of the chapter.
type model struct {
	rules []api.Rule
	sas   *sad.Sad
	paths *pmtu.Cache
}

// find is where the first rule for a flow is, or -1.
func (m *model) find(f api.Flow, out bool) int {
	for i, r := range m.rules {
		if (out && r.Out || !out && r.In) && pick.Matches(r.Pick, f) {
			return i
		}
	}
	return -1
}

// beyond tells whether n is not from 0 to most.
func beyond(n int, most int) bool { return n < 0 || n > most }

// wire is what Wire must answer, byte by byte.
func wire(p api.Pack) ([]byte, api.Errno) {
	n := len(p.Data)
	switch {
	case len(p.Src) == 4 && len(p.Dst) == 4:
		if beyond(p.Proto, 255) || beyond(p.Ttl, 255) || beyond(p.Id, 65535) {
			return nil, api.ErrArg
		}
		if n > 65515 {
			return nil, api.ErrLong
		}
		place := byte(0)
		if p.Df {
			place = 64
		}
		b := []byte{0x45, 0, byte((n + 20) >> 8), byte(n + 20), byte(p.Id >> 8), byte(p.Id), place, 0, byte(p.Ttl), byte(p.Proto), 0, 0}
		b = append(append(b, p.Src...), p.Dst...)
		sum := 0
		for i := 0; i < 20; i += 2 {
			sum += int(b[i])<<8 | int(b[i+1])
		}
		for sum > 65535 {
			sum = sum&65535 + sum>>16
		}
		b[10], b[11] = byte(^sum>>8), byte(^sum)
		return append(b, p.Data...), api.OK
	case len(p.Src) == 16 && len(p.Dst) == 16:
		between := p.Proto == 0 || p.Proto == 43 || p.Proto == 44 || p.Proto == 60
		if beyond(p.Proto, 255) || beyond(p.Ttl, 255) || between {
			return nil, api.ErrArg
		}
		if n > 65535 {
			return nil, api.ErrLong
		}
		b := []byte{0x60, 0, 0, 0, byte(n >> 8), byte(n), byte(p.Proto), byte(p.Ttl)}
		b = append(append(b, p.Src...), p.Dst...)
		return append(b, p.Data...), api.OK
	}
	return nil, api.ErrArg
}

// unwire is what Unwire must answer.
func unwire(b []byte) (api.Pack, api.Errno) {
	if len(b) == 0 {
		return api.Pack{}, api.ErrMore
	}
	switch b[0] >> 4 {
	case 4:
		if _, e := ip4.Parse(b); e != api.OK {
			return api.Pack{}, e
		}
		if b[0] != 0x45 || b[6]&^64 != 0 || b[7] != 0 {
			return api.Pack{}, api.ErrForm
		}
		return api.Pack{
			Src: string(b[12:16]), Dst: string(b[16:20]), Proto: int(b[9]), Ttl: int(b[8]),
			Id: int(b[4])<<8 | int(b[5]), Df: b[6] == 64, Data: b[20:],
		}, api.OK
	case 6:
		if _, e := ip6.Parse(b); e != api.OK {
			return api.Pack{}, e
		}
		if k := b[6]; k == 0 || k == 43 || k == 44 || k == 60 {
			return api.Pack{}, api.ErrForm
		}
		return api.Pack{Src: string(b[8:24]), Dst: string(b[24:40]), Proto: int(b[6]), Ttl: int(b[7]), Data: b[40:]}, api.OK
	}
	return api.Pack{}, api.ErrForm
}

// sizeOf is the size of a packet.
func sizeOf(p api.Pack) int {
	if len(p.Src) == 16 {
		return 40 + len(p.Data)
	}
	return 20 + len(p.Data)
}

// out is what Out must answer.
func (m *model) out(now int, p api.Pack, link int) (api.Pack, int, api.Errno) {
	f, e := pick.Of(p.Src, p.Dst, p.Proto, p.Data, true)
	if e != api.OK {
		return api.Pack{}, 0, e
	}
	at := m.find(f, true)
	if at < 0 || m.rules[at].Action == api.Discard {
		return api.Pack{}, 0, api.ErrDiscard
	}
	r := m.rules[at]
	if r.Action == api.Bypass {
		return p, 0, api.OK
	}
	spi, e := m.sas.Pick(now, r.Name)
	if e != api.OK {
		return api.Pack{}, 0, e
	}
	q, inner, next := p, p.Data, p.Proto
	q.Proto = 50
	if r.Tunnel {
		if inner, e = wire(p); e != api.OK {
			return api.Pack{}, 0, e
		}
		next = map[int]int{4: 4, 16: 41}[len(p.Src)]
		q = api.Pack{Src: r.Self, Dst: r.Peer, Proto: 50, Ttl: 64, Df: p.Df || len(p.Src) == 16}
	}
	if p.Df || len(p.Src) == 16 {
		mtu, e := m.paths.Get(now, q.Dst, link)
		if e != api.OK {
			return api.Pack{}, 0, e
		}
		if most := pmtu.Inner(mtu, len(q.Dst) == 16, r.Tunnel); sizeOf(p) > most {
			return api.Pack{}, most, api.ErrBig
		}
	}
	if esp.Length(len(inner)) > 65000 {
		return api.Pack{}, 0, api.ErrLong
	}
	sa, seq, e := m.sas.Send(now, spi, len(inner))
	if e != api.OK {
		return api.Pack{}, 0, e
	}
	if r.Tunnel {
		q.Id = int(seq & 65535)
	}
	q.Data, _ = esp.Seal(sa, seq, inner, next)
	return q, 0, api.OK
}

// in is what In must answer.
func (m *model) in(now int, p api.Pack) (api.Pack, api.Errno) {
	if p.Proto == 50 {
		return m.inProtected(now, p)
	}
	f, e := pick.Of(p.Src, p.Dst, p.Proto, p.Data, false)
	if e != api.OK {
		return api.Pack{}, e
	}
	at := m.find(f, false)
	if at < 0 || m.rules[at].Action == api.Discard {
		return api.Pack{}, api.ErrDiscard
	}
	if m.rules[at].Action == api.Protect {
		return api.Pack{}, api.ErrSelector
	}
	return p, api.OK
}

// inProtected is what In must answer to a packet of protocol 50.
func (m *model) inProtected(now int, p api.Pack) (api.Pack, api.Errno) {
	spi, low, e := esp.Peek(p.Data)
	if e != api.OK {
		return api.Pack{}, e
	}
	l, seq, e := m.sas.Look(now, spi, low)
	if e != api.OK {
		return api.Pack{}, e
	}
	data, next, e := esp.Open(l.Sa, seq, p.Data)
	if e != api.OK {
		return api.Pack{}, e
	}
	if e = m.sas.Take(now, spi, seq, len(data)); e != api.OK {
		return api.Pack{}, e
	}
	at := 0
	for at < len(m.rules) && !(m.rules[at].Name == l.Rule && m.rules[at].In && m.rules[at].Action == api.Protect) {
		at++
	}
	if at == len(m.rules) {
		return api.Pack{}, api.ErrSelector
	}
	r, q := m.rules[at], p
	q.Proto, q.Data = next, data
	if r.Tunnel {
		version := map[int]byte{4: 4, 41: 6}[next]
		if p.Src != r.Peer || p.Dst != r.Self || version == 0 || len(data) == 0 || data[0]>>4 != version {
			return api.Pack{}, api.ErrSelector
		}
		if q, e = unwire(data); e != api.OK {
			return api.Pack{}, e
		}
	}
	f, e := pick.Of(q.Src, q.Dst, q.Proto, q.Data, false)
	if e != api.OK {
		return api.Pack{}, e
	}
	if m.find(f, false) != at {
		return api.Pack{}, api.ErrSelector
	}
	return q, api.OK
}

// pair is a gate beside a model. All that is told to one is told to the other, and
// what they answer is held against each other.
type pair struct {
	*testing.T
	g *gate.Gate
	m *model
}

// fresh is a gate with some rules, in their order.
func fresh(t *testing.T, rules ...api.Rule) pair {
	t.Helper()
	p := pair{t, gate.New(), &model{sas: sad.New(), paths: pmtu.New()}}
	for i, r := range rules {
		p.add(i, r)
	}
	return p
}

// add adds a rule.
func (p pair) add(at int, r api.Rule) {
	p.Helper()
	is(p.T, "Add of a rule", p.g.Rules().Add(at, r), api.OK)
	p.m.rules = append(p.m.rules[:at:at], append([]api.Rule{r}, p.m.rules[at:]...)...)
}

// remove removes a rule.
func (p pair) remove(at int) {
	p.Helper()
	is(p.T, "Remove of a rule", p.g.Rules().Remove(at), api.OK)
	p.m.rules = append(p.m.rules[:at:at], p.m.rules[at+1:]...)
}

// live adds an association.
func (p pair) live(now int, l api.Life) {
	p.Helper()
	is(p.T, "Add of an association", p.g.Sas().Add(now, l), p.m.sas.Add(now, l))
}

// die removes an association.
func (p pair) die(spi int, out bool) {
	p.Helper()
	is(p.T, "Remove of an association", p.g.Sas().Remove(spi, out), p.m.sas.Remove(spi, out))
}

// tell tells the MTU of a path.
func (p pair) tell(now int, dst string, mtu int) {
	p.Helper()
	a, e := p.g.Paths().Tell(now, dst, mtu)
	b, f := p.m.paths.Tell(now, dst, mtu)
	if a != b || e != f {
		p.Fatalf("P22.2: Tell(%d, %x, %d) = %d, %d, want %d, %d", now, dst, mtu, a, e, b, f)
	}
}

// out sends a packet.
func (p pair) out(now int, q api.Pack, link int) (api.Pack, int, api.Errno) {
	p.Helper()
	r, n, e := p.g.Out(now, q, link)
	want, m, f := p.m.out(now, q, link)
	if !equal(r, want) || n != m || e != f {
		p.Fatalf("P22.3: Out(%d, %s, %d) = %s, %d, %d, want %s, %d, %d", now, told(q), link, told(r), n, e, told(want), m, f)
	}
	return r, n, e
}

// in receives a packet.
func (p pair) in(now int, q api.Pack) (api.Pack, api.Errno) {
	p.Helper()
	r, e := p.g.In(now, q)
	want, f := p.m.in(now, q)
	if !equal(r, want) || e != f {
		p.Fatalf("P22.4: In(%d, %s) = %s, %d, want %s, %d", now, told(q), told(r), e, told(want), f)
	}
	return r, e
}

// sends wants that a packet goes out, and returns what goes out for it.
func (p pair) sends(now int, q api.Pack, link int) api.Pack {
	p.Helper()
	r, n, e := p.out(now, q, link)
	if n != 0 || e != api.OK {
		p.Fatalf("P22.3: Out(%d, %s, %d) = %d, %d, want 0, 0", now, told(q), link, n, e)
	}
	return r
}

// keeps wants that a packet does not go out, with an error and a number.
func (p pair) keeps(now int, q api.Pack, link int, most int, want api.Errno) {
	p.Helper()
	r, n, e := p.out(now, q, link)
	if !equal(r, api.Pack{}) || n != most || e != want {
		p.Fatalf("P22.3: Out(%d, %s, %d) = %s, %d, %d, want %d, %d", now, told(q), link, told(r), n, e, most, want)
	}
}

// gets wants that a packet comes in as another one.
func (p pair) gets(now int, q api.Pack, want api.Pack) {
	p.Helper()
	if r, e := p.in(now, q); !equal(r, want) || e != api.OK {
		p.Fatalf("P22.4: In(%d, %s) = %s, %d, want %s", now, told(q), told(r), e, told(want))
	}
}

// refuses wants that a packet does not come in.
func (p pair) refuses(now int, q api.Pack, want api.Errno) {
	p.Helper()
	if r, e := p.in(now, q); !equal(r, api.Pack{}) || e != want {
		p.Fatalf("P22.4: In(%d, %s) = %s, %d, want %d", now, told(q), told(r), e, want)
	}
}
