package spd_test

import (
	"math"
	"runtime"
	"slices"
	"strings"
	"testing"
	"unsafe"

	"redoubt/api"
	"redoubt/pick"
	"redoubt/spd"
)

// Addresses of both versions, in their order.
const (
	one   = "\x0a\x00\x00\x01"
	two   = "\x0a\x00\x00\x02"
	three = "\x0a\x00\x00\x03"

	one6   = "\x20\x01\x0d\xb8\x00\x00\x00\x00\x00\x00\x00\x00\x00\x00\x00\x01"
	two6   = "\x20\x01\x0d\xb8\x00\x00\x00\x00\x00\x00\x00\x00\x00\x00\x00\x02"
	three6 = "\x20\x01\x0d\xb8\x00\x00\x00\x00\x00\x00\x00\x00\x00\x00\x00\x03"
)

// dice are numbers without a plain order, the same in each run.
type dice struct{ seed uint64 }

// under is a number from 0 to n - 1.
func (d *dice) under(n int) int {
	d.seed = d.seed*6364136223846793005 + 1442695040888963407
	return int(d.seed >> 33 % uint64(n))
}

// one is true once in n times.
func (d *dice) once(n int) bool { return d.under(n) == 0 }

// some is a string of n bytes without a plain order.
func some(n int, seed uint64) string {
	d, b := dice{seed}, make([]byte, n)
	for i := range b {
		b[i] = byte(d.under(256))
	}
	return string(b)
}

// anyPorts is the range of all ports.
var anyPorts = api.Ports{Low: 0, High: 65535}

// all is the selector that matches every flow.
func all() api.Pick { return api.Pick{Proto: -1, Near: anyPorts, Far: anyPorts} }

// bypass is a rule that is for every flow in both directions.
func bypass(name int) api.Rule {
	return api.Rule{Name: name, Pick: all(), Out: true, In: true, Action: api.Bypass}
}

// of is a rule for a protocol.
func of(proto int, action int, out bool, in bool) api.Rule {
	r := api.Rule{Pick: all(), Out: out, In: in, Action: action}
	r.Pick.Proto = proto
	return r
}

// tunnel is a rule that asks for one.
func tunnel(name int, self string, peer string) api.Rule {
	return api.Rule{Name: name, Pick: all(), Out: true, In: true, Action: api.Protect, Tunnel: true, Self: self, Peer: peer}
}

// goodPicks are valid selectors.
func goodPicks() []api.Pick {
	p := all()
	p.Here, p.There = api.Span{Low: one, High: three}, api.Span{Low: one6, High: two6}
	return []api.Pick{all(), {}, p, {Proto: 255, Near: api.Ports{Low: 53, High: 53}, Far: api.Ports{Low: 65535, High: 65535}}}
}

// oddPicks are selectors that are not valid, each with one wrong field, and one
// with nothing else.
func oddPicks() []api.Pick {
	list := []api.Pick{{Here: api.Span{Low: three, High: one}, There: api.Span{High: one}, Proto: -2, Near: api.Ports{Low: -1}, Far: api.Ports{High: -1}}}
	turns := []func(p *api.Pick){
		func(p *api.Pick) { p.Here = api.Span{Low: two, High: one} },
		func(p *api.Pick) { p.Here = api.Span{Low: one, High: one6} },
		func(p *api.Pick) { p.Here.Low = one },
		func(p *api.Pick) { p.There = api.Span{Low: two6, High: one6} },
		func(p *api.Pick) { p.There = api.Span{Low: "abc", High: "abd"} },
		func(p *api.Pick) { p.There.High = one6 },
		func(p *api.Pick) { p.Proto = -2 },
		func(p *api.Pick) { p.Proto = 256 },
		func(p *api.Pick) { p.Near.Low = -1 },
		func(p *api.Pick) { p.Near.High = 65536 },
		func(p *api.Pick) { p.Far = api.Ports{Low: 1, High: 0} },
		func(p *api.Pick) { p.Far = api.Ports{Low: 65536, High: 65536} },
	}
	for _, turn := range turns {
		p := all()
		turn(&p)
		list = append(list, p)
	}
	return list
}

// may tells, by the chapter's words, whether a rule is valid.
func may(r api.Rule) bool {
	if r.Name < 0 || pick.Check(r.Pick) != api.OK || !(r.Out || r.In) {
		return false
	}
	if r.Action != 1 && r.Action != 2 && r.Action != 3 {
		return false
	}
	if !r.Tunnel {
		return r.Self+r.Peer == ""
	}
	both4 := len(r.Self) == 4 && len(r.Peer) == 4
	both16 := len(r.Self) == 16 && len(r.Peer) == 16
	return r.Action == 3 && (both4 || both16)
}

// checked fails unless Check answers an error.
func checked(t *testing.T, want api.Errno, r api.Rule) {
	t.Helper()
	if e := spd.Check(r); e != want {
		t.Errorf("P16.1: Check(%#v) = %d, not %d", r, e, want)
	}
}

// TestCheckName passes names at and past their end, in rules of all kinds.
func TestCheckName(t *testing.T) {
	for _, r := range []api.Rule{bypass(0), tunnel(0, one, two), tunnel(0, one6, two6), of(6, api.Discard, true, false), of(6, api.Protect, false, true)} {
		for _, n := range []int{0, 1, 2, 63, 64, 65, 255, 256, 65535, 65536, math.MaxInt32, math.MaxInt} {
			r.Name = n
			checked(t, api.OK, r)
		}
		for _, n := range []int{-1, -2, -64, -65536, math.MinInt32, math.MinInt} {
			r.Name = n
			checked(t, api.ErrArg, r)
		}
	}
}

// TestCheckPick passes selectors that are valid and that are not.
func TestCheckPick(t *testing.T) {
	for _, r := range []api.Rule{bypass(0), tunnel(1, one, two), of(6, api.Discard, true, false), of(6, api.Protect, false, true)} {
		for _, p := range goodPicks() {
			r.Pick = p
			checked(t, api.OK, r)
		}
		for _, p := range oddPicks() {
			r.Pick = p
			checked(t, api.ErrArg, r)
		}
	}
}

// TestCheckDirections passes both directions, each of them, and none.
func TestCheckDirections(t *testing.T) {
	for _, r := range []api.Rule{bypass(0), tunnel(1, one6, two6), of(6, api.Discard, true, false), of(6, api.Protect, false, true)} {
		for i, want := range []api.Errno{api.ErrArg, api.OK, api.OK, api.OK} {
			r.Out, r.In = i&1 != 0, i&2 != 0
			checked(t, want, r)
		}
	}
}

// TestCheckAction passes actions with and without a tunnel.
func TestCheckAction(t *testing.T) {
	for n, want := range map[int]api.Errno{
		math.MinInt: api.ErrArg, -3: api.ErrArg, -1: api.ErrArg, 0: api.ErrArg, 1: api.OK, 2: api.OK, 3: api.OK,
		4: api.ErrArg, 5: api.ErrArg, 255: api.ErrArg, 257: api.ErrArg, 1<<32 + 1: api.ErrArg, math.MaxInt: api.ErrArg,
	} {
		r := bypass(0)
		r.Action = n
		checked(t, want, r)
	}
	for n := -5; n < 10; n++ {
		for _, r := range []api.Rule{tunnel(0, one, two), tunnel(0, one6, two6), tunnel(0, one, one)} {
			r.Action = n
			if n == 3 {
				checked(t, api.OK, r)
			} else {
				checked(t, api.ErrArg, r)
			}
		}
	}
}

// TestCheckEnds passes ends of a tunnel of all short lengths, with each action,
// and where no tunnel is asked for.
func TestCheckEnds(t *testing.T) {
	for self := range 40 {
		for peer := range 40 {
			for action := range 5 {
				r := tunnel(0, some(self, 1), some(peer, 2))
				r.Action = action
				if action == 3 && self == peer && (self == 4 || self == 16) {
					checked(t, api.OK, r)
				} else {
					checked(t, api.ErrArg, r)
				}
				r.Tunnel = false
				if action > 0 && action < 4 && self == 0 && peer == 0 {
					checked(t, api.OK, r)
				} else {
					checked(t, api.ErrArg, r)
				}
			}
		}
	}
	for _, s := range []string{"\x00\x00\x00\x00", "\xff\xff\xff\xff", strings.Repeat("\x00", 16), strings.Repeat("\xff", 16)} {
		checked(t, api.OK, tunnel(0, s, s))
	}
	for _, n := range []int{20, 32, 64, 256, 260, 272, 65540} {
		checked(t, api.ErrArg, tunnel(0, some(n, 1), some(n, 2)))
	}
}

// everyRule calls f with rules in which right and wrong values of all fields
// stand beside each other in all ways.
func everyRule(f func(r api.Rule)) {
	ends := []string{"", one[:3], one, one + "\x01", one6[:15], one6, one6 + "\x01"}
	picks := append(goodPicks()[:2], oddPicks()[0], oddPicks()[7])
	for _, name := range []int{-1, 0, 1} {
		for _, p := range picks {
			for bits := range 8 {
				for action := -1; action < 6; action++ {
					for _, self := range ends {
						for _, peer := range ends {
							f(api.Rule{Name: name, Pick: p, Out: bits&1 != 0, In: bits&2 != 0, Tunnel: bits&4 != 0, Action: action, Self: self, Peer: peer})
						}
					}
				}
			}
		}
	}
}

// TestCheckTogether passes rules with all sets of wrong fields.
func TestCheckTogether(t *testing.T) {
	good := 0
	everyRule(func(r api.Rule) {
		if may(r) {
			good++
			checked(t, api.OK, r)
		} else {
			checked(t, api.ErrArg, r)
		}
	})
	if want := 2 * 2 * 3 * (3 + 2); good != want { // names, picks, directions, actions without a tunnel and its versions
		t.Errorf("P16.1: %d rules are valid, not %d", good, want)
	}
	checked(t, api.ErrArg, api.Rule{})
}

// model is a policy by the chapter's words, that keeps its rules alone.
type model struct{ rules []api.Rule }

// add is what Add must answer, and takes the rule in.
func (m *model) add(at int, r api.Rule) api.Errno {
	if !may(r) || at < 0 || at > len(m.rules) {
		return api.ErrArg
	}
	if len(m.rules) == 64 {
		return api.ErrFull
	}
	var list []api.Rule
	list = append(list, m.rules[:at]...)
	list = append(list, r)
	m.rules = append(list, m.rules[at:]...)
	return api.OK
}

// remove is what Remove must answer, and takes the rule out.
func (m *model) remove(at int) api.Errno {
	if at < 0 || at >= len(m.rules) {
		return api.ErrNone
	}
	var list []api.Rule
	list = append(list, m.rules[:at]...)
	m.rules = append(list, m.rules[at+1:]...)
	return api.OK
}

// find is what Find must answer.
func (m *model) find(f api.Flow, out bool) (int, api.Errno) {
	for i, r := range m.rules {
		if (out && r.Out || !out && r.In) && pick.Matches(r.Pick, f) {
			return i, api.OK
		}
	}
	return 0, api.ErrNone
}

// pair is a policy and what it must be.
type pair struct {
	*testing.T
	s *spd.Spd
	m *model
}

// fresh is a policy with some rules.
func fresh(t *testing.T, rules ...api.Rule) *pair {
	t.Helper()
	p := &pair{t, spd.New(), &model{}}
	if p.s == nil {
		t.Fatal("P16.1: New() = nil")
	}
	for i, r := range rules {
		p.add(i, r)
	}
	return p
}

// add, remove, find and listed ask the policy, and fail unless it answers what it
// must.
func (p *pair) add(at int, r api.Rule) {
	p.Helper()
	if e, want := p.s.Add(at, r), p.m.add(at, r); e != want {
		p.Fatalf("P16.1: Add(%d, %#v) to %d rules = %d, not %d", at, r, len(p.m.rules), e, want)
	}
}

func (p *pair) remove(at int) {
	p.Helper()
	n := len(p.m.rules)
	if e, want := p.s.Remove(at), p.m.remove(at); e != want {
		p.Fatalf("P16.1: Remove(%d) of %d rules = %d, not %d", at, n, e, want)
	}
}

func (p *pair) find(f api.Flow, out bool) {
	p.Helper()
	want, wrong := p.m.find(f, out)
	if n, e := p.s.Find(f, out); n != want || e != wrong {
		p.Errorf("P16.2: Find(%#v, %v) = %d, %d, not %d, %d", f, out, n, e, want, wrong)
	}
}

func (p *pair) listed() {
	p.Helper()
	if list := p.s.List(); !slices.Equal(list, p.m.rules) {
		p.Fatalf("P16.1: List() = %#v, not %#v", list, p.m.rules)
	}
}

// asked asks for all flows of a list in both directions.
func (p *pair) asked(list []api.Flow) {
	p.Helper()
	for _, f := range list {
		p.find(f, true)
		p.find(f, false)
	}
}

// same asks for all that can be seen of the policy.
func (p *pair) same() {
	p.Helper()
	p.listed()
	p.asked(flows())
}

// flows are flows of both versions, with and without ports, and some that no
// packet has.
func flows() []api.Flow {
	var list []api.Flow
	for _, ends := range [][2]string{{one, two}, {two, one}, {three, three}, {one6, two6}, {two6, one6}, {one, one6}, {"", ""}} {
		for _, proto := range []int{1, 6, 17} {
			for _, ports := range [][2]int{{-1, -1}, {53, 80}, {80, 53}, {0, 65535}} {
				list = append(list, api.Flow{Here: ends[0], There: ends[1], Proto: proto, Near: ports[0], Far: ports[1]})
			}
		}
	}
	return list
}

// drawnPick is a valid selector that the dice choose, often a wide one.
func drawnPick(d *dice) api.Pick {
	span := func() api.Span {
		list := []api.Span{{}, {}, {}, {Low: one, High: one}, {Low: one, High: two}, {Low: two, High: three}, {Low: one6, High: one6}, {Low: one6, High: two6}, {Low: two6, High: three6}}
		return list[d.under(len(list))]
	}
	ports := func() api.Ports {
		list := []api.Ports{anyPorts, anyPorts, anyPorts, {Low: 53, High: 53}, {Low: 0, High: 79}, {Low: 80, High: 65535}, {Low: 1, High: 65534}}
		return list[d.under(len(list))]
	}
	protos := []int{-1, -1, 1, 6, 17}
	return api.Pick{Here: span(), There: span(), Proto: protos[d.under(len(protos))], Near: ports(), Far: ports()}
}

// drawnRule is a valid rule that the dice choose.
func drawnRule(d *dice) api.Rule {
	r := api.Rule{Name: d.under(100), Pick: drawnPick(d), Out: d.once(2), Action: 1 + d.under(3)}
	r.In = !r.Out || d.once(2)
	if r.Action == api.Protect && d.once(2) {
		list := [][2]string{{one, two}, {two, one}, {one6, two6}, {three6, three6}}
		ends := list[d.under(len(list))]
		r.Tunnel, r.Self, r.Peer = true, ends[0], ends[1]
	}
	return r
}

// drawnRules are n of them.
func drawnRules(n int, seed uint64) []api.Rule {
	d := &dice{seed}
	list := make([]api.Rule, n)
	for i := range list {
		list[i] = drawnRule(d)
	}
	return list
}

// TestNew asks policies without rules.
func TestNew(t *testing.T) {
	p := fresh(t)
	if list := p.s.List(); len(list) != 0 {
		t.Errorf("P16.1: List() = %v without rules", list)
	}
	p.same()
	for _, at := range []int{-1, 0, 1, math.MinInt, math.MaxInt} {
		if e := p.s.Remove(at); e != api.ErrNone {
			t.Errorf("P16.1: Remove(%d) without rules = %d, not %d", at, e, api.ErrNone)
		}
	}
	p.same()
}

// TestExample asks the chapter's example.
func TestExample(t *testing.T) {
	s := spd.New()
	if e := s.Add(0, of(-1, api.Discard, true, false)); e != api.OK {
		t.Errorf("P16.1: Add = %d", e)
	}
	if e := s.Add(0, of(17, api.Bypass, true, false)); e != api.OK {
		t.Errorf("P16.1: Add = %d", e)
	}
	for _, c := range []struct {
		proto int
		out   bool
		want  int
		wrong api.Errno
	}{{17, true, 0, api.OK}, {6, true, 1, api.OK}, {6, false, 0, api.ErrNone}} {
		f := api.Flow{Here: one, There: two, Proto: c.proto, Near: 53, Far: 80}
		for range 3 {
			if n, e := s.Find(f, c.out); n != c.want || e != c.wrong {
				t.Errorf("P16.2: Find(%d, %v) = %d, %d, not %d, %d", c.proto, c.out, n, e, c.want, c.wrong)
			}
		}
	}
}

// places are where a rule may be put among n rules or taken from, and where not.
func places(n int) []int {
	list := []int{math.MinInt, math.MinInt32, -65, -64, -2, n + 2, 64, 65, 128, math.MaxInt32, math.MaxInt}
	for at := -1; at <= n+1; at++ {
		list = append(list, at)
	}
	return list
}

// TestAddAt puts a rule at each place among others.
func TestAddAt(t *testing.T) {
	for _, n := range []int{0, 1, 2, 3, 7, 31, 62, 63} {
		for _, at := range places(n) {
			p := fresh(t, drawnRules(n, 3)...)
			p.listed()
			p.add(at, tunnel(500, one, two))
			p.listed()
			p.find(api.Flow{}, true)
			p.add(at, bypass(501))
			p.listed()
			p.find(api.Flow{}, true)
		}
	}
}

// TestAddMoved tells by the names of rules which places they moved to.
func TestAddMoved(t *testing.T) {
	s := spd.New()
	for i, at := range []int{0, 0, 2, 1, 4, 0} {
		if e := s.Add(at, bypass(i)); e != api.OK {
			t.Errorf("P16.1: Add(%d) = %d", at, e)
		}
	}
	var names []int
	for _, r := range s.List() {
		names = append(names, r.Name)
	}
	if want := []int{5, 1, 3, 0, 2, 4}; !slices.Equal(names, want) {
		t.Errorf("P16.1: the rules are %v, not %v", names, want)
	}
}

// TestAddFull fills policies in several orders, and passes more.
func TestAddFull(t *testing.T) {
	for _, from := range []func(n int) int{func(n int) int { return n }, func(int) int { return 0 }, func(n int) int { return n / 2 }} {
		s := spd.New()
		for n := range 64 {
			if e := s.Add(from(n), bypass(n)); e != api.OK {
				t.Fatalf("P16.1: Add to %d rules = %d", n, e)
			}
			if list := s.List(); len(list) != n+1 || list[from(n)] != bypass(n) {
				t.Fatalf("P16.1: the rules are %v", list)
			}
		}
		for range 3 {
			for at := range 65 {
				if e := s.Add(at, bypass(64)); e != api.ErrFull {
					t.Errorf("P16.1: Add(%d) to 64 rules = %d, not %d", at, e, api.ErrFull)
				}
			}
			for _, at := range []int{-1, 65, 66, math.MinInt, math.MaxInt} {
				if e := s.Add(at, bypass(64)); e != api.ErrArg {
					t.Errorf("P16.1: Add(%d) to 64 rules = %d, not %d", at, e, api.ErrArg)
				}
			}
		}
	}
}

// TestAddAgain takes rules from a full policy, which then has room again.
func TestAddAgain(t *testing.T) {
	p := fresh(t, drawnRules(64, 4)...)
	for i, at := range []int{0, 63, 31, 1, 62, 0, 63} {
		p.add(at, bypass(100+i))
		p.remove(at)
		p.same()
		p.add(63-at, bypass(200+i))
		p.add(0, bypass(300+i))
		p.same()
	}
}

// TestAddSame puts one rule into a policy several times.
func TestAddSame(t *testing.T) {
	p := fresh(t)
	for i := range 64 {
		p.add(i/2, tunnel(7, one6, two6))
	}
	p.same()
	p.remove(10)
	p.same()
}

// TestAddOrder lets faults of Add meet: a nil policy, a rule that is not valid, a
// place that is not there, and no room.
func TestAddOrder(t *testing.T) {
	odd := []api.Rule{{}, of(300, api.Bypass, true, true), tunnel(-1, one, two), tunnel(0, one, one6), bypass(math.MinInt)}
	var none *spd.Spd
	for _, n := range []int{0, 1, 5, 63, 64} {
		p := fresh(t, drawnRules(n, 5)...)
		for _, at := range places(n) {
			for _, r := range odd {
				if e := p.s.Add(at, r); e != api.ErrArg {
					t.Errorf("P16.1: Add(%d, %#v) to %d rules = %d, not %d", at, r, n, e, api.ErrArg)
				}
				if e := none.Add(at, r); e != api.ErrNil {
					t.Errorf("P16.1: Add(%d, %#v) to nil = %d, not %d", at, r, e, api.ErrNil)
				}
			}
			if at < 0 || at > n {
				p.add(at, bypass(1))
			}
		}
		p.same()
	}
}

// TestAddEvery passes rules with all sets of wrong fields to a policy with room
// and to one without.
func TestAddEvery(t *testing.T) {
	full := fresh(t, drawnRules(64, 6)...)
	for step := range 3 {
		p, i := fresh(t, drawnRules(3, 7)...), 0
		everyRule(func(r api.Rule) {
			if i++; i%3 != step { // a third of them at a time
				return
			}
			full.add(i%67-1, r)
			p.add(i%len(p.m.rules), r)
			if len(p.m.rules) > 3 {
				p.listed()
				p.remove(i % len(p.m.rules))
			}
		})
		p.same()
	}
	full.same()
}

// TestRemove takes a rule from each place.
func TestRemove(t *testing.T) {
	for _, n := range []int{0, 1, 2, 3, 7, 31, 63, 64} {
		for _, at := range places(n) {
			p := fresh(t, drawnRules(n, 8)...)
			p.find(api.Flow{}, true)
			p.remove(at)
			p.listed()
			p.find(api.Flow{}, true)
			p.remove(at)
			p.listed()
			p.find(api.Flow{}, true)
		}
	}
}

// TestRemoveAll takes all rules from policies, in several orders.
func TestRemoveAll(t *testing.T) {
	for _, from := range []func(n int) int{func(n int) int { return n - 1 }, func(int) int { return 0 }, func(n int) int { return n / 2 }} {
		p := fresh(t, drawnRules(64, 9)...)
		for n := 64; n > 0; n-- {
			if e := p.s.Remove(from(n)); e != api.OK {
				t.Fatalf("P16.1: Remove(%d) of %d rules = %d", from(n), n, e)
			}
			p.m.remove(from(n))
			p.listed()
		}
		for _, at := range []int{-1, 0, 1} {
			if e := p.s.Remove(at); e != api.ErrNone {
				t.Errorf("P16.1: Remove(%d) without rules = %d, not %d", at, e, api.ErrNone)
			}
		}
		p.same()
		p.add(0, bypass(1))
		p.same()
	}
}

// TestNil calls each method on no policy, with right and wrong arguments.
func TestNil(t *testing.T) {
	var none *spd.Spd
	if list := none.List(); len(list) != 0 {
		t.Errorf("P16.1: List() of nil = %v", list)
	}
	for _, at := range places(2) {
		for _, r := range []api.Rule{bypass(0), tunnel(1, one, two), {}, tunnel(-1, "", one)} {
			if e := none.Add(at, r); e != api.ErrNil {
				t.Errorf("P16.1: Add(%d, %#v) to nil = %d, not %d", at, r, e, api.ErrNil)
			}
		}
		if e := none.Remove(at); e != api.ErrNil {
			t.Errorf("P16.1: Remove(%d) of nil = %d, not %d", at, e, api.ErrNil)
		}
	}
	for _, f := range append(flows(), api.Flow{}) {
		for _, out := range []bool{true, false} {
			if n, e := none.Find(f, out); n != 0 || e != api.ErrNil {
				t.Errorf("P16.1: Find(%#v, %v) of nil = %d, %d, not 0, %d", f, out, n, e, api.ErrNil)
			}
		}
	}
}

// TestRefusedChangesNothing passes what is refused, and asks for all that is
// there.
func TestRefusedChangesNothing(t *testing.T) {
	for _, n := range []int{0, 1, 10, 63, 64} {
		p := fresh(t, drawnRules(n, 10)...)
		for _, at := range []int{-1, 0, n / 2, n, n + 1} {
			p.add(at, api.Rule{})
			p.same()
			p.add(at, tunnel(0, one, one6))
			p.same()
			if at < 0 || at > n || n == 64 {
				p.add(at, bypass(0))
				p.same()
			}
			if at < 0 || at >= n {
				p.remove(at)
				p.same()
			}
		}
	}
}

// TestFindNone asks policies whose rules are for none of the flows.
func TestFindNone(t *testing.T) {
	p := fresh(t, of(99, api.Bypass, true, true), of(100, api.Protect, true, true))
	for _, f := range flows() {
		for _, out := range []bool{true, false, true} {
			if n, e := p.s.Find(f, out); n != 0 || e != api.ErrNone {
				t.Errorf("P16.2: Find(%#v, %v) = %d, %d, not 0, %d", f, out, n, e, api.ErrNone)
			}
		}
	}
}

// TestFindFirst lets all rules from one place on be for a flow.
func TestFindFirst(t *testing.T) {
	f := api.Flow{Here: one, There: two, Proto: 6, Near: 53, Far: 80}
	for n := 1; n <= 64; n++ {
		for first := range n + 1 {
			s := spd.New()
			for i := range n {
				r := of(17, 1+i%3, true, true)
				if i >= first {
					r.Pick.Proto = 6 - 7*(i%2)
				}
				if e := s.Add(i, r); e != api.OK {
					t.Fatalf("P16.1: Add = %d", e)
				}
			}
			want, wrong := first, api.OK
			if first == n {
				want, wrong = 0, api.ErrNone
			}
			for range 2 {
				if at, e := s.Find(f, true); at != want || e != wrong {
					t.Errorf("P16.2: of %d rules, those from %d on are for the flow, and Find = %d, %d", n, first, at, e)
				}
			}
		}
	}
}

// TestFindOne lets one rule alone be for a flow.
func TestFindOne(t *testing.T) {
	for at := range 64 {
		s := spd.New()
		for i := range 64 {
			r := of(i, api.Discard, i != at, i == at)
			s.Add(i, r)
		}
		f := api.Flow{Here: one, There: two, Proto: at, Near: -1, Far: -1}
		for range 2 {
			if n, e := s.Find(f, false); n != at || e != api.OK {
				t.Errorf("P16.2: Find of what rule %d is for = %d, %d", at, n, e)
			}
			if n, e := s.Find(f, true); n != 0 || e != api.ErrNone {
				t.Errorf("P16.2: Find of the other direction = %d, %d", n, e)
			}
		}
	}
}

// TestFindDirections puts rules for each direction, and for both, before others.
func TestFindDirections(t *testing.T) {
	f := api.Flow{Here: one, There: two, Proto: 6, Near: 53, Far: 80}
	for bits := range 1 << 6 { // two for each of three rules
		p := fresh(t)
		for i := range 3 {
			out, in := bits>>(2*i)&1 != 0, bits>>(2*i+1)&1 != 0
			p.add(len(p.m.rules), of(6, api.Bypass, out, in)) // refused if it is for neither
		}
		for order := range 8 { // which direction is asked first must not matter
			for i := range 3 {
				p.find(f, order>>i&1 != 0)
			}
		}
	}
}

// TestFindAction finds rules whatever they do with a flow.
func TestFindAction(t *testing.T) {
	f := api.Flow{Here: one, There: two, Proto: 6, Near: 53, Far: 80}
	for _, r := range []api.Rule{bypass(0), bypass(9), of(6, api.Discard, true, true), of(6, api.Protect, true, true), tunnel(1, three, one), tunnel(2, one6, two6)} {
		p := fresh(t, of(17, api.Bypass, true, true), r, bypass(3))
		for _, out := range []bool{true, false} {
			if n, e := p.s.Find(f, out); n != 1 || e != api.OK {
				t.Errorf("P16.2: Find = %d, %d where %#v is for the flow", n, e, r)
			}
		}
	}
}

// TestFindEachField asks for flows that differ in one field, one after another,
// of a policy that tells them apart by that field.
func TestFindEachField(t *testing.T) {
	f := api.Flow{Here: one, There: one, Proto: 6, Near: 53, Far: 53}
	turns := []struct {
		rule func(p *api.Pick)
		flow func(f *api.Flow)
	}{
		{func(p *api.Pick) { p.Here = api.Span{Low: two, High: two} }, func(f *api.Flow) { f.Here = two }},
		{func(p *api.Pick) { p.There = api.Span{Low: two, High: two} }, func(f *api.Flow) { f.There = two }},
		{func(p *api.Pick) { p.Proto = 17 }, func(f *api.Flow) { f.Proto = 17 }},
		{func(p *api.Pick) { p.Near = api.Ports{Low: 54, High: 54} }, func(f *api.Flow) { f.Near = 54 }},
		{func(p *api.Pick) { p.Far = api.Ports{Low: 54, High: 54} }, func(f *api.Flow) { f.Far = 54 }},
		{func(p *api.Pick) { p.Here = api.Span{Low: one6, High: one6} }, func(f *api.Flow) { f.Here = one6 }},
		{func(p *api.Pick) { p.There = api.Span{Low: one6, High: one6} }, func(f *api.Flow) { f.There = one6 }},
	}
	for _, turn := range turns {
		r, g := bypass(1), f
		turn.rule(&r.Pick)
		turn.flow(&g)
		for _, list := range [][]api.Flow{{f, g, f}, {g, f, g}} {
			p := fresh(t, r)
			p.asked(list)
			p.add(1, bypass(2))
			p.asked(list)
			p.remove(0)
			p.asked(list)
		}
		s := spd.New()
		s.Add(0, r)
		if n, e := s.Find(g, true); n != 0 || e != api.OK {
			t.Errorf("P16.2: Find(%#v) = %d, %d", g, n, e)
		}
		if n, e := s.Find(f, true); n != 0 || e != api.ErrNone {
			t.Errorf("P16.2: Find(%#v) = %d, %d, not 0, %d", f, n, e, api.ErrNone)
		}
	}
}

// TestFindTurned asks again between calls that turn the answer.
func TestFindTurned(t *testing.T) {
	s := spd.New()
	f := api.Flow{Here: one, There: two, Proto: 6, Near: 53, Far: 80}
	find := func(out bool, want int, wrong api.Errno) {
		t.Helper()
		for range 3 {
			if n, e := s.Find(f, out); n != want || e != wrong {
				t.Errorf("P16.2: Find(.., %v) = %d, %d, not %d, %d", out, n, e, want, wrong)
			}
		}
	}
	done := func(e api.Errno) {
		t.Helper()
		if e != api.OK {
			t.Errorf("P16.1: %d", e)
		}
	}
	find(true, 0, api.ErrNone)
	find(false, 0, api.ErrNone)
	done(s.Add(0, of(6, api.Bypass, true, false)))
	find(true, 0, api.OK)
	find(false, 0, api.ErrNone)
	done(s.Add(0, of(17, api.Bypass, true, true)))
	find(true, 1, api.OK)
	find(false, 0, api.ErrNone)
	done(s.Add(2, of(-1, api.Discard, true, true)))
	find(true, 1, api.OK)
	find(false, 2, api.OK)
	done(s.Add(1, of(6, api.Protect, false, true)))
	find(true, 2, api.OK)
	find(false, 1, api.OK)
	done(s.Remove(2))
	find(true, 2, api.OK)
	find(false, 1, api.OK)
	done(s.Remove(0))
	find(true, 1, api.OK)
	find(false, 0, api.OK)
	done(s.Remove(0))
	find(true, 0, api.OK)
	find(false, 0, api.OK)
	done(s.Remove(0))
	find(true, 0, api.ErrNone)
	find(false, 0, api.ErrNone)
}

// TestFindReplaced puts another rule in the place of one, so that the number of
// rules stays.
func TestFindReplaced(t *testing.T) {
	p := fresh(t, drawnRules(20, 11)...)
	d := &dice{12}
	for range 60 {
		p.asked(flows())
		at := d.under(20)
		p.remove(at)
		p.add(at, drawnRule(d))
		p.same()
	}
}

// manyFlows are n flows, all unlike each other.
func manyFlows(n int) []api.Flow {
	list := make([]api.Flow, n)
	for i := range list {
		list[i] = api.Flow{Here: one, There: []string{one, two, three, one6}[i%4], Proto: []int{6, 17}[i/4%2], Near: i % 65536, Far: i * 7 % 65536}
	}
	return list
}

// TestFindMany asks for many more unlike flows than there are rules, in several
// orders and again, and between calls that turn the answers.
func TestFindMany(t *testing.T) {
	list := manyFlows(20000)
	back := slices.Clone(list)
	slices.Reverse(back)
	p := fresh(t)
	for i := range 5 {
		r := bypass(i)
		r.Pick.Near = api.Ports{Low: 4000 * i, High: 4000*i + 3000}
		r.Pick.Proto = []int{-1, 6, 17}[i%3]
		r.Out = i%2 == 0
		p.add(0, r)
	}
	p.asked(list)
	p.asked(list)
	p.asked(back)
	p.asked(list[:65])
	p.add(2, bypass(9))
	p.asked(back)
	p.remove(0)
	p.asked(list)
	p.same()
}

// TestFindManyTurned alters the rules after each small number of unlike flows up
// to well beyond how many rules there may be.
func TestFindManyTurned(t *testing.T) {
	list := manyFlows(5000)
	for _, n := range []int{1, 2, 7, 8, 9, 63, 64, 65, 127, 128, 129, 255, 256, 257, 1023, 1024, 1025, 4095, 4096, 4097} {
		p := fresh(t, of(6, api.Bypass, true, false))
		p.asked(list[:n])
		p.add(0, of(17, api.Bypass, true, true))
		p.asked(list[:n])
		p.remove(0)
		p.asked(list[:n])
		p.remove(0)
		p.asked(list[:n])
	}
}

// TestFindOdd asks for flows that no packet has.
func TestFindOdd(t *testing.T) {
	var list []api.Flow
	for _, ends := range [][2]string{{"", ""}, {"ab", "c"}, {"a", "bc"}, {"abc", ""}, {"", "abc"}, {one, one6}, {one + "\x00", one}, {"\x00", "\x00\x00"}, {some(70000, 1), some(70000, 2)}} {
		for _, n := range []int{math.MinInt, -2, -1, 0, 53, 255, 256, 65535, 65536, math.MaxInt} {
			list = append(list,
				api.Flow{Here: ends[0], There: ends[1], Proto: n, Near: 53, Far: 53},
				api.Flow{Here: ends[0], There: ends[1], Proto: 6, Near: n, Far: 53},
				api.Flow{Here: ends[0], There: ends[1], Proto: 6, Near: 53, Far: n})
		}
	}
	p := fresh(t)
	p.asked(list)
	for i, r := range append(drawnRules(10, 13), of(6, api.Bypass, true, false), bypass(1)) {
		p.add(i, r)
		p.asked(list)
		p.asked(list)
	}
}

// TestFindLimits asks for ports and addresses at and past the ends of ranges.
func TestFindLimits(t *testing.T) {
	r := bypass(0)
	r.Pick.Here, r.Pick.Near = api.Span{Low: two, High: two}, api.Ports{Low: 53, High: 60}
	q := bypass(1)
	q.Pick.There, q.Pick.Far = api.Span{Low: one6, High: two6}, api.Ports{Low: 0, High: 65535}
	p := fresh(t, r, q)
	for range 2 {
		for _, here := range []string{one, two, three, one6} {
			for _, there := range []string{one, one6, two6, three6} {
				for _, port := range []int{-1, 0, 52, 53, 54, 59, 60, 61, 65535} {
					p.find(api.Flow{Here: here, There: there, Proto: 6, Near: port, Far: port}, true)
				}
			}
		}
	}
}

// TestDepends holds a policy that was asked much, and came to its rules by way of
// others, against one that has only these.
func TestDepends(t *testing.T) {
	for seed := range uint64(30) {
		d := &dice{seed}
		p := fresh(t, drawnRules(d.under(65), seed)...)
		for range 40 {
			list := flows()
			for range d.under(50) {
				p.s.Find(list[d.under(len(list))], d.once(2))
			}
			if d.once(2) {
				p.add(d.under(len(p.m.rules)+1), drawnRule(d))
			} else {
				p.remove(d.under(len(p.m.rules) + 1))
			}
		}
		q := fresh(t, p.m.rules...)
		for _, f := range flows() {
			for _, out := range []bool{true, false} {
				n, e := p.s.Find(f, out)
				m, g := q.s.Find(f, out)
				if n != m || e != g {
					t.Errorf("P16.3: Find(%#v, %v) = %d, %d, and %d, %d with the same rules", f, out, n, e, m, g)
				}
			}
		}
	}
}

// TestAsking asks for flows many times, in between of others, and again.
func TestAsking(t *testing.T) {
	p, d := fresh(t, drawnRules(30, 14)...), &dice{15}
	list := flows()
	type answer struct {
		n int
		e api.Errno
	}
	var before [2][]answer
	for i, out := range []bool{true, false} {
		for _, f := range list {
			n, e := p.s.Find(f, out)
			before[i] = append(before[i], answer{n, e})
		}
	}
	for range 20000 {
		at, i := d.under(len(list)), d.under(2)
		n, e := p.s.Find(list[at], i == 0)
		if want := before[i][at]; n != want.n || e != want.e {
			t.Errorf("P16.3: Find(%#v) = %d, %d, and was %v", list[at], n, e, want)
		}
	}
	p.same()
}

// TestBehind inserts rules behind others, and asks for the flows that these
// match.
func TestBehind(t *testing.T) {
	for seed := range uint64(20) {
		d := &dice{100 + seed}
		for n := 1; n < 64; n += 1 + d.under(9) {
			rules := drawnRules(n, seed)
			p := fresh(t, rules...)
			at := 1 + d.under(n)
			r := bypass(1000)
			if d.once(2) {
				r = drawnRule(d)
			}
			before := fresh(t, rules...)
			p.asked(flows())
			p.add(at, r)
			for _, f := range flows() {
				for _, out := range []bool{true, false} {
					want, e := before.s.Find(f, out)
					if e != api.OK || want >= at {
						continue
					}
					if m, e := p.s.Find(f, out); m != want || e != api.OK {
						t.Errorf("P16.3: Find(%#v, %v) = %d, %d, and was %d before a rule was put at %d", f, out, m, e, want, at)
					}
				}
			}
		}
	}
}

// TestWalk calls all methods without a plain order.
func TestWalk(t *testing.T) {
	for seed := range uint64(12) {
		p, d := fresh(t), &dice{1000 + seed}
		list := flows()
		for step := range 3000 {
			n := len(p.m.rules)
			switch d.under(6) {
			case 0:
				p.add(d.under(n+3)-1, drawnRule(d))
			case 1:
				if d.once(2) || n > 60 {
					p.remove(d.under(n+3) - 1)
				}
			case 2:
				r := drawnRule(d)
				r.Name -= 50
				p.add(d.under(n+3)-1, r)
			default:
				for range 10 {
					p.find(list[d.under(len(list))], d.once(2))
				}
			}
			if step%50 == 0 {
				p.same()
			}
		}
		p.same()
	}
}

// TestApart takes turns between policies: what one has tells the others nothing.
func TestApart(t *testing.T) {
	list := []*pair{fresh(t), fresh(t), fresh(t, bypass(1)), fresh(t, of(6, api.Discard, true, false)), fresh(t, drawnRules(64, 16)...)}
	d := &dice{17}
	for range 200 {
		p := list[d.under(len(list))]
		if n := len(p.m.rules); d.once(2) {
			p.add(d.under(n+1), drawnRule(d))
		} else {
			p.remove(d.under(n + 1))
		}
		f := flows()[d.under(len(flows()))]
		for _, q := range list {
			q.find(f, true)
			q.find(f, false)
		}
	}
	for _, p := range list {
		p.same()
	}
}

// TestListIsNew alters lists, and puts more behind them.
func TestListIsNew(t *testing.T) {
	for _, n := range []int{1, 2, 7, 8, 63, 64} {
		p := fresh(t, drawnRules(n, 18)...)
		first, second := p.s.List(), p.s.List()
		kept := slices.Clone(second)
		for i := range first {
			first[i] = api.Rule{Name: -5}
		}
		first = append(first, bypass(77), bypass(78))
		first[0].Out = true
		p.same()
		if !slices.Equal(second, kept) {
			t.Errorf("P16.1: two lists of %d rules share memory", n)
		}
		p.s.Remove(0)
		p.s.Add(0, bypass(79))
		if n < 64 {
			p.s.Add(n, bypass(80))
		}
		if !slices.Equal(second, kept) {
			t.Errorf("P16.1: a list of %d rules goes with the policy", n)
		}
	}
}

// texts are the strings of a rule.
func texts(r api.Rule) []string {
	return []string{r.Pick.Here.Low, r.Pick.Here.High, r.Pick.There.Low, r.Pick.There.High, r.Self, r.Peer}
}

// room is memory that strings lie in which are altered with it.
type room []byte

// text is a string that lies in the room.
func (m room) text(at int, n int) string { return unsafe.String(&m[at], n) }

// rule is one whose strings all lie in the room; the addresses are in order as
// long as its bytes are.
func (m room) rule() api.Rule {
	r := tunnel(1, m.text(16, 4), m.text(20, 4))
	r.Pick.Here = api.Span{Low: m.text(0, 4), High: m.text(4, 4)}
	r.Pick.There = api.Span{Low: m.text(8, 4), High: m.text(12, 4)}
	return r
}

// filled is a room whose bytes rise.
func filled() room {
	m := make(room, 64)
	for i := range m {
		m[i] = byte(i)
	}
	return m
}

// TestRulesAreKept alters the memory of a rule after it was passed.
func TestRulesAreKept(t *testing.T) {
	m, same := filled(), filled()
	s := spd.New()
	if e := s.Add(0, m.rule()); e != api.OK {
		t.Fatalf("P16.1: Add = %d", e)
	}
	if !slices.Equal(m, same) {
		t.Error("P16.1: Add alters what it is passed")
	}
	clear(m)
	if list := s.List(); len(list) != 1 || list[0] != same.rule() {
		t.Errorf("P16.1: List() = %#v after the argument of Add was altered", list)
	}
	f := api.Flow{Here: same.text(2, 4), There: same.text(10, 4)}
	if n, e := s.Find(f, true); n != 0 || e != api.OK {
		t.Errorf("P16.2: Find = %d, %d after the argument of Add was altered", n, e)
	}
}

// TestTextsAreNew holds where the strings of lists lie against where those that
// were passed, and those of other lists and rules, lie.
func TestTextsAreNew(t *testing.T) {
	m := filled()
	s := spd.New()
	r := m.rule()
	s.Add(0, r)
	s.Add(1, r)
	first, second := s.List(), s.List()
	lies := map[*byte]bool{}
	for _, q := range []api.Rule{r, first[0], first[1], second[0], second[1]} {
		for _, x := range texts(q) {
			if p := unsafe.StringData(x); lies[p] {
				t.Error("P16.1: strings of a list share memory with others")
			} else {
				lies[p] = true
			}
		}
	}
	for _, x := range texts(first[0]) { // they are in memory of their own, so they may be altered
		clear(unsafe.Slice(unsafe.StringData(x), len(x)))
	}
	for _, q := range append(s.List(), second...) {
		if q != filled().rule() {
			t.Errorf("P16.1: %#v is altered with another list", q)
		}
	}
}

// TestFlowsAreKept alters the memory of flows after they were passed, and asks
// for what they were and for what they are now.
func TestFlowsAreKept(t *testing.T) {
	p := fresh(t)
	for i := range 60 {
		r := bypass(i)
		r.Pick.Here = api.Span{Low: string([]byte{0, 0, 0, byte(i)}), High: string([]byte{0, 0, 0, byte(i)})}
		p.add(i, r)
	}
	m := make(room, 8)
	for range 3 {
		for i := range 70 {
			m[3], m[7] = byte(i), byte(i/2)
			kept := slices.Clone(m)
			p.find(api.Flow{Here: m.text(0, 4), There: m.text(4, 4), Proto: 6}, true)
			if !slices.Equal(m, kept) {
				t.Fatal("P16.2: Find alters what it is passed")
			}
		}
		for i := range 70 {
			f := api.Flow{Here: string([]byte{0, 0, 0, byte(i)}), There: string([]byte{0, 0, 0, byte(i / 2)}), Proto: 6}
			p.find(f, true)
			p.find(f, false)
		}
	}
	p.same()
}

// TestFewKept asks for flows without an end, which must not fill the memory.
func TestFewKept(t *testing.T) {
	s := spd.New()
	s.Add(0, bypass(0))
	var before, after runtime.MemStats
	runtime.GC()
	runtime.ReadMemStats(&before)
	for i := range 300000 {
		s.Find(api.Flow{Here: one, There: two, Proto: 6, Near: i, Far: i}, true)
	}
	runtime.GC()
	runtime.ReadMemStats(&after)
	runtime.KeepAlive(s)
	if after.HeapAlloc > before.HeapAlloc+10<<20 {
		t.Errorf("P16.2: %d bytes are kept of 300000 flows", after.HeapAlloc-before.HeapAlloc)
	}
}
