package sad_test

import (
	"math"
	"math/big"
	"slices"
	"strings"
	"testing"

	"redoubt/api"
	"redoubt/sad"
	"redoubt/window"
)

const (
	lows = 1 << 32        // how many numbers have the same high half
	last = math.MaxUint64 // the greatest number of all
)

// dice are numbers without a plain order, the same in each run.
type dice struct{ seed uint64 }

// under is a number from 0 to n - 1.
func (d *dice) under(n int) int {
	d.seed = d.seed*6364136223846793005 + 1442695040888963407
	return int(d.seed >> 33 % uint64(n))
}

// once is true once in n times.
func (d *dice) once(n int) bool { return d.under(n) == 0 }

// of is one of some numbers.
func (d *dice) of(list ...int) int { return list[d.under(len(list))] }

// life is a valid entry without limits.
func life(spi int, out bool) api.Life {
	return api.Life{
		Sa:   api.Sa{Spi: spi, Key: "0123456789abcdef", Salt: "salt", Mac: strings.Repeat("mac!", 8), Window: 64},
		Rule: 1,
		Out:  out,
	}
}

// limited is a valid entry with limits.
func limited(spi int, out bool, softBytes int, mostBytes int, softTime int, mostTime int) api.Life {
	l := life(spi, out)
	l.SoftBytes, l.MostBytes, l.SoftTime, l.MostTime = softBytes, mostBytes, softTime, mostTime
	return l
}

// extended is a valid entry with extended sequence numbers.
func extended(spi int, out bool, size int) api.Life {
	l := life(spi, out)
	l.Sa.Esn, l.Sa.Window = true, size
	return l
}

// ofRule is an entry for another rule.
func ofRule(l api.Life, rule int) api.Life {
	l.Rule = rule
	return l
}

// entry is what a database must know of an association, by the chapter's words:
// its byte count is an integer without an end.
type entry struct {
	life  api.Life
	added int
	bytes *big.Int
	last  uint64
	came  *window.Window
}

// model is what a database must know.
type model struct{ list []*entry }

// valid tells whether an entry is valid.
func valid(l api.Life) bool {
	sa := l.Sa
	if sa.Spi < 256 || sa.Spi > 4294967295 || len(sa.Key) != 16 && len(sa.Key) != 32 {
		return false
	}
	if len(sa.Salt) != 4 || len(sa.Mac) != 32 || sa.Window < 64 || sa.Window > 1024 {
		return false
	}
	return l.Rule >= 0 && l.SoftBytes >= 0 && l.MostBytes >= 0 && l.SoftTime >= 0 && l.MostTime >= 0
}

// find is where an association stands, or -1.
func (m *model) find(spi int, out bool) int {
	return slices.IndexFunc(m.list, func(a *entry) bool { return a.life.Sa.Spi == spi && a.life.Out == out })
}

// add is what Add must answer, and takes the entry in.
func (m *model) add(now int, l api.Life) api.Errno {
	switch {
	case !valid(l) || now < 0:
		return api.ErrArg
	case m.find(l.Sa.Spi, l.Out) >= 0:
		return api.ErrThere
	case len(m.list) == 32:
		return api.ErrFull
	}
	a := &entry{life: l, added: now, bytes: new(big.Int)}
	if !l.Out {
		a.came, _ = window.New(l.Sa.Window, l.Sa.Esn)
	}
	m.list = append(m.list, a)
	return api.OK
}

// remove is what Remove must answer, and takes the association out.
func (m *model) remove(spi int, out bool) api.Errno {
	at := m.find(spi, out)
	if at < 0 {
		return api.ErrNone
	}
	m.list = slices.Delete(m.list, at, at+1)
	return api.OK
}

// over tells whether one of two limits is reached.
func (a *entry) over(now int, most int, time int) bool {
	passed := big.NewInt(int64(now))
	passed.Sub(passed, big.NewInt(int64(a.added)))
	return most != 0 && a.bytes.Cmp(big.NewInt(int64(most))) >= 0 || time != 0 && passed.Cmp(big.NewInt(int64(time))) >= 0
}

// age is how old an association is.
func (a *entry) age(now int) int {
	switch {
	case a.over(now, a.life.MostBytes, a.life.MostTime):
		return 2
	case a.over(now, a.life.SoftBytes, a.life.SoftTime):
		return 1
	}
	return 0
}

// age is what Age must answer.
func (m *model) age(now int, spi int, out bool) (int, api.Errno) {
	at := m.find(spi, out)
	if at < 0 {
		return 0, api.ErrNone
	}
	return m.list[at].age(now), api.OK
}

// pick is what Pick must answer.
func (m *model) pick(now int, rule int) (int, api.Errno) {
	var ofAge [3][]int
	for _, a := range m.list {
		if a.life.Out && a.life.Rule == rule {
			ofAge[a.age(now)] = append(ofAge[a.age(now)], a.life.Sa.Spi)
		}
	}
	if len(ofAge[0]) > 0 {
		return ofAge[0][0], api.OK
	}
	if n := len(ofAge[1]); n > 0 {
		return ofAge[1][n-1], api.OK
	}
	return 0, api.ErrNoSa
}

// send is what Send must answer, and reserves the number.
func (m *model) send(now int, spi int, n int) (api.Sa, uint64, api.Errno) {
	at := m.find(spi, true)
	switch {
	case n < 0:
		return api.Sa{}, 0, api.ErrArg
	case at < 0:
		return api.Sa{}, 0, api.ErrNone
	case m.list[at].age(now) == 2:
		return api.Sa{}, 0, api.ErrHard
	}
	a := m.list[at]
	if !a.life.Sa.Esn && a.last == 4294967295 || a.last == last {
		return api.Sa{}, 0, api.ErrEnd
	}
	a.last++
	a.bytes.Add(a.bytes, big.NewInt(int64(n)))
	return a.life.Sa, a.last, api.OK
}

// look is what Look must answer.
func (m *model) look(now int, spi int, low int) (api.Life, uint64, api.Errno) {
	at := m.find(spi, false)
	if at < 0 {
		return api.Life{}, 0, api.ErrNone
	}
	a := m.list[at]
	if a.age(now) == 2 {
		return api.Life{}, 0, api.ErrHard
	}
	n, e := a.came.Infer(low)
	if e != api.OK {
		return api.Life{}, 0, e
	}
	if e := a.came.Check(n); e != api.OK {
		return api.Life{}, 0, e
	}
	return a.life, n, api.OK
}

// take is what Take must answer, and records the packet.
func (m *model) take(now int, spi int, seq uint64, n int) api.Errno {
	at := m.find(spi, false)
	switch {
	case n < 0:
		return api.ErrArg
	case at < 0:
		return api.ErrNone
	case m.list[at].age(now) == 2:
		return api.ErrHard
	}
	a := m.list[at]
	e := a.came.Accept(seq)
	if e == api.OK {
		a.bytes.Add(a.bytes, big.NewInt(int64(n)))
	}
	return e
}

// lives are the entries in order.
func (m *model) lives() []api.Life {
	list := []api.Life{}
	for _, a := range m.list {
		list = append(list, a.life)
	}
	return list
}

// pair is a database and what it must know. Its methods fail unless the database
// answers what it must.
type pair struct {
	*testing.T
	s *sad.Sad
	m *model
}

// fresh is a database with some entries, added at 0.
func fresh(t *testing.T, list ...api.Life) *pair {
	t.Helper()
	p := &pair{t, sad.New(), &model{}}
	for _, l := range list {
		p.add(0, l)
	}
	return p
}

// add returns what Add answers, as it must.
func (p *pair) add(now int, l api.Life) api.Errno {
	p.Helper()
	want := p.m.add(now, l)
	if e := p.s.Add(now, l); e != want {
		p.Fatalf("P17.1: Add(%d, %+v) = %d, not %d", now, l, e, want)
	}
	return want
}

func (p *pair) remove(spi int, out bool) api.Errno {
	p.Helper()
	want := p.m.remove(spi, out)
	if e := p.s.Remove(spi, out); e != want {
		p.Fatalf("P17.1: Remove(%d, %t) = %d, not %d", spi, out, e, want)
	}
	return want
}

func (p *pair) age(now int, spi int, out bool) int {
	p.Helper()
	want, f := p.m.age(now, spi, out)
	if n, e := p.s.Age(now, spi, out); n != want || e != f {
		p.Fatalf("P17.1: Age(%d, %d, %t) = %d, %d, not %d, %d", now, spi, out, n, e, want, f)
	}
	return want
}

func (p *pair) pick(now int, rule int) api.Errno {
	p.Helper()
	want, f := p.m.pick(now, rule)
	if n, e := p.s.Pick(now, rule); n != want || e != f {
		p.Fatalf("P17.2: Pick(%d, %d) = %d, %d, not %d, %d", now, rule, n, e, want, f)
	}
	return f
}

func (p *pair) send(now int, spi int, n int) api.Errno {
	p.Helper()
	sa, seq, e := p.m.send(now, spi, n)
	if a, b, f := p.s.Send(now, spi, n); a != sa || b != seq || f != e {
		p.Fatalf("P17.2: Send(%d, %d, %d) = %+v, %d, %d, not %+v, %d, %d", now, spi, n, a, b, f, sa, seq, e)
	}
	return e
}

func (p *pair) look(now int, spi int, low int) api.Errno {
	p.Helper()
	l, seq, e := p.m.look(now, spi, low)
	if a, b, f := p.s.Look(now, spi, low); a != l || b != seq || f != e {
		p.Fatalf("P17.3: Look(%d, %d, %d) = %+v, %d, %d, not %+v, %d, %d", now, spi, low, a, b, f, l, seq, e)
	}
	return e
}

func (p *pair) take(now int, spi int, seq uint64, n int) api.Errno {
	p.Helper()
	want := p.m.take(now, spi, seq, n)
	if e := p.s.Take(now, spi, seq, n); e != want {
		p.Fatalf("P17.3: Take(%d, %d, %d, %d) = %d, not %d", now, spi, seq, n, e, want)
	}
	return want
}

func (p *pair) listed() {
	p.Helper()
	if list := p.s.List(); !slices.Equal(list, p.m.lives()) {
		p.Fatalf("P17.1: List() = %+v, not %+v", list, p.m.lives())
	}
}

// moments are times at which ages are asked for.
var moments = []int{math.MinInt32, -1, 0, 1, 9, 10, 11, 49, 50, 99, 100, 101, 149, 150, 199, 200, 201, 1000, 2000000000}

// same asks for all that can be seen of the database without a change.
func (p *pair) same() {
	p.Helper()
	p.listed()
	for _, now := range moments {
		for _, a := range p.m.list {
			p.age(now, a.life.Sa.Spi, a.life.Out)
			p.pick(now, a.life.Rule)
		}
		p.pick(now, 0)
		p.pick(now, -1)
	}
	for _, a := range p.m.list {
		p.age(0, a.life.Sa.Spi, !a.life.Out)
		for _, low := range []int{0, 1, 2, 3, 36, 37, 64, 100, 163, 164, lows - 1} {
			p.look(0, a.life.Sa.Spi, low)
		}
	}
}

// known asks for the same, and for the next numbers, so that none was used up
// unseen.
func (p *pair) known() {
	p.Helper()
	p.same()
	for _, a := range p.m.list {
		p.send(0, a.life.Sa.Spi, 0)
	}
}

// is fails unless an error is the one that is expected.
func is(t *testing.T, name string, got api.Errno, want api.Errno) {
	t.Helper()
	if got != want {
		t.Fatalf("%s = %d, not %d", name, got, want)
	}
}

// change makes one field of an entry, or the time, another one.
type change func(l *api.Life, now *int)

// right are changes after which an entry is valid.
func right() []change {
	list := []change{
		func(l *api.Life, now *int) {},
		func(l *api.Life, now *int) { l.Sa.Key = strings.Repeat("k", 32) },
		func(l *api.Life, now *int) { l.Sa.Key = strings.Repeat("\x00", 16) },
		func(l *api.Life, now *int) { l.Sa.Salt = "\x00\x00\x00\x00" },
		func(l *api.Life, now *int) { l.Sa.Mac = strings.Repeat("\xff", 32) },
		func(l *api.Life, now *int) { l.Sa.Esn = true },
	}
	for _, n := range []int{256, 257, 65535, 65536, 4294967294, 4294967295} {
		list = append(list, func(l *api.Life, now *int) { l.Sa.Spi = n })
	}
	for _, n := range []int{64, 65, 1023, 1024} {
		list = append(list, func(l *api.Life, now *int) { l.Sa.Window = n })
	}
	for _, n := range []int{0, 1, 2, math.MaxInt32, math.MaxInt} {
		list = append(list, numbers(n)...)
	}
	return list
}

// numbers are the changes that put n where a number that is 0 or greater stands.
func numbers(n int) []change {
	return []change{
		func(l *api.Life, now *int) { l.Rule = n },
		func(l *api.Life, now *int) { l.SoftBytes = n },
		func(l *api.Life, now *int) { l.MostBytes = n },
		func(l *api.Life, now *int) { l.SoftTime = n },
		func(l *api.Life, now *int) { l.MostTime = n },
		func(l *api.Life, now *int) { *now = min(n, 2000000000) },
	}
}

// wrong are changes after which an entry is not valid, or the time is negative.
func wrong() []change {
	var list []change
	for _, n := range []int{math.MinInt, math.MinInt32, -256, -1, 0, 1, 255, 4294967296, 4294967296 + 256, math.MaxInt} {
		list = append(list, func(l *api.Life, now *int) { l.Sa.Spi = n })
	}
	for _, n := range []int{0, 1, 15, 17, 24, 31, 33, 48, 64} {
		list = append(list, func(l *api.Life, now *int) { l.Sa.Key = strings.Repeat("k", n) })
	}
	for _, n := range []int{0, 1, 3, 5, 8, 16} {
		list = append(list, func(l *api.Life, now *int) { l.Sa.Salt = strings.Repeat("s", n) })
	}
	for _, n := range []int{0, 1, 16, 31, 33, 64} {
		list = append(list, func(l *api.Life, now *int) { l.Sa.Mac = strings.Repeat("m", n) })
	}
	for _, n := range []int{math.MinInt, -64, -1, 0, 1, 63, 1025, 2048, math.MaxInt} {
		list = append(list, func(l *api.Life, now *int) { l.Sa.Window = n })
	}
	for _, n := range []int{-1, -2, math.MinInt32, math.MinInt} {
		list = append(list, numbers(n)...)
	}
	return list
}

// TestNew asks a database without associations.
func TestNew(t *testing.T) {
	p := fresh(t)
	if list := p.s.List(); len(list) != 0 {
		t.Errorf("P17.1: List() = %v without associations", list)
	}
	for _, out := range []bool{true, false} {
		for _, spi := range []int{math.MinInt, -1, 0, 255, 256, 4294967295, math.MaxInt} {
			is(t, "P17.1: Remove", p.remove(spi, out), api.ErrNone)
			p.age(0, spi, out)
			is(t, "P17.2: Pick", p.pick(0, spi), api.ErrNoSa)
			is(t, "P17.2: Send", p.send(0, spi, 1), api.ErrNone)
			is(t, "P17.3: Look", p.look(0, spi, 1), api.ErrNone)
			is(t, "P17.3: Take", p.take(0, spi, 1, 1), api.ErrNone)
		}
	}
	p.same()
}

// TestExample asks the chapter's example.
func TestExample(t *testing.T) {
	s := sad.New()
	pick := func(want int) {
		t.Helper()
		if spi, e := s.Pick(0, 1); spi != want || e != api.OK {
			t.Errorf("P17.2: Pick(0, 1) = %d, %d, not %d", spi, e, want)
		}
	}
	is(t, "P17.1: Add", s.Add(0, limited(256, true, 10, 0, 0, 0)), api.OK)
	if sa, seq, e := s.Send(0, 256, 10); sa != life(256, true).Sa || seq != 1 || e != api.OK {
		t.Errorf("P17.2: Send(0, 256, 10) = %+v, %d, %d", sa, seq, e)
	}
	pick(256)
	is(t, "P17.1: Add", s.Add(0, limited(257, true, 10, 0, 0, 0)), api.OK)
	pick(257)
}

// TestAddRight adds entries that are valid, in both directions.
func TestAddRight(t *testing.T) {
	for _, out := range []bool{true, false} {
		for _, change := range right() {
			l, now := limited(300, out, 10, 20, 30, 40), 0
			change(&l, &now)
			p := fresh(t)
			is(t, "P17.1: Add", p.add(now, l), api.OK)
			p.known()
		}
	}
}

// TestAddWrong passes entries with one wrong field, in both directions, to a
// database without associations and to one with some.
func TestAddWrong(t *testing.T) {
	for _, out := range []bool{true, false} {
		empty, some := fresh(t), fresh(t, life(256, true), life(256, false), life(300, !out))
		for _, change := range wrong() {
			l, now := limited(300, out, 10, 20, 30, 40), 0
			change(&l, &now)
			is(t, "P17.1: Add", empty.add(now, l), api.ErrArg)
			is(t, "P17.1: Add", some.add(now, l), api.ErrArg)
			empty.listed()
			some.listed()
		}
		empty.known()
		some.known()
		is(t, "P17.1: Add", some.add(0, life(300, out)), api.OK)
		some.known()
	}
}

// TestAddEvery passes entries with all sets of wrong fields.
func TestAddEvery(t *testing.T) {
	kinds := append(numbers(-1),
		func(l *api.Life, now *int) { l.Sa.Spi = 255 },
		func(l *api.Life, now *int) { l.Sa.Key += "k" },
		func(l *api.Life, now *int) { l.Sa.Salt = "" },
		func(l *api.Life, now *int) { l.Sa.Mac = l.Sa.Mac[1:] },
		func(l *api.Life, now *int) { l.Sa.Window = 1025 })
	p := fresh(t)
	for set := range 1 << len(kinds) {
		l, now := life(256, set%3 == 0), 5
		for i, change := range kinds {
			if set>>i&1 != 0 {
				change(&l, &now)
			}
		}
		want := api.ErrArg
		if set == 0 {
			want = api.OK
		}
		is(t, "P17.1: Add", p.add(now, l), want)
	}
	p.known()
}

// TestAddNumbers puts -1, 0 and 1 into all the numbers, in all ways.
func TestAddNumbers(t *testing.T) {
	for set := range 729 { // three to the power of how many there are
		l, now := life(256, set%2 == 0), 0
		rest, want := set, api.OK
		for i := range 6 {
			n := rest%3 - 1
			rest /= 3
			numbers(n)[i](&l, &now)
			if n < 0 {
				want = api.ErrArg
			}
		}
		p := fresh(t)
		is(t, "P17.1: Add", p.add(now, l), want)
		p.same()
	}
}

// TestAddThere adds entries whose Spi is there, in the same direction and in the
// other one.
func TestAddThere(t *testing.T) {
	for _, out := range []bool{true, false} {
		p := fresh(t, life(300, out))
		other := limited(300, out, 5, 6, 7, 8) // all fields but these two are others
		other.Rule, other.Sa.Esn, other.Sa.Window = 9, true, 128
		other.Sa.Key, other.Sa.Salt, other.Sa.Mac = strings.Repeat("k", 32), "SALT", strings.Repeat("MAC!", 8)
		is(t, "P17.1: Add", p.add(0, life(300, out)), api.ErrThere)
		is(t, "P17.1: Add", p.add(70, other), api.ErrThere)
		p.known()
		is(t, "P17.1: Add", p.add(0, life(300, !out)), api.OK)
		is(t, "P17.1: Add", p.add(0, life(300, !out)), api.ErrThere)
		is(t, "P17.1: Add", p.add(0, life(300, out)), api.ErrThere)
		is(t, "P17.1: Add", p.add(0, life(301, out)), api.OK)
		is(t, "P17.1: Add", p.add(0, life(299, out)), api.OK)
		is(t, "P17.1: Add", p.add(0, life(300+1<<31, out)), api.OK)
		is(t, "P17.1: Add", p.add(90, life(300+1<<31, out)), api.ErrThere)
		p.known()
		is(t, "P17.1: Remove", p.remove(300, out), api.OK)
		is(t, "P17.1: Add", p.add(0, other), api.OK)
		p.known()
	}
}

// directions tell the direction of the ith of many associations, each in a way of
// its own.
var directions = []func(i int) bool{
	func(i int) bool { return true },
	func(i int) bool { return false },
	func(i int) bool { return i%2 == 0 },
	func(i int) bool { return i < 16 },
}

// many is a database with n associations.
func many(t *testing.T, n int, out func(i int) bool) *pair {
	t.Helper()
	p := fresh(t)
	for i := range n {
		is(t, "P17.1: Add", p.add(i, limited(1000+i, out(i), i, 0, 2*i, 0)), api.OK)
	}
	return p
}

// TestAddFull adds the 31st association, the 32nd and the 33rd.
func TestAddFull(t *testing.T) {
	for _, out := range directions {
		p := many(t, 30, out)
		for i := 30; i < 32; i++ {
			is(t, "P17.1: Add", p.add(0, life(1000+i, out(i))), api.OK)
			is(t, "P17.1: Add", p.add(0, life(1000+i, out(i))), api.ErrThere)
			p.known()
		}
		is(t, "P17.1: Add", p.add(0, life(1032, true)), api.ErrFull)
		is(t, "P17.1: Add", p.add(0, life(1032, false)), api.ErrFull)
		is(t, "P17.1: Add", p.add(0, life(1000, !out(0))), api.ErrFull)
		is(t, "P17.1: Add", p.add(0, life(1031, out(31))), api.ErrThere)
		p.known()
		is(t, "P17.1: Remove", p.remove(1032, true), api.ErrNone)
		is(t, "P17.1: Add", p.add(0, life(1032, true)), api.ErrFull)
		is(t, "P17.1: Remove", p.remove(1000, out(0)), api.OK)
		is(t, "P17.1: Add", p.add(0, life(1032, true)), api.OK)
		is(t, "P17.1: Add", p.add(0, life(1000, out(0))), api.ErrFull)
		p.known()
	}
}

// TestAddOrder lets faults of Add meet: no database, an entry that is not valid, a
// negative time, an association that is there, and no room.
func TestAddOrder(t *testing.T) {
	var none *sad.Sad
	for faults := range 32 {
		isNil, isWrong, isEarly, isThere, isFull := faults&1 != 0, faults&2 != 0, faults&4 != 0, faults&8 != 0, faults&16 != 0
		n, l, now, want := 1, life(2000, true), 0, api.OK
		if isFull {
			n, want = 32, api.ErrFull
		}
		if isThere {
			l, want = life(1000, true), api.ErrThere
		}
		if isEarly {
			now, want = -1, api.ErrArg
		}
		if isWrong {
			l.Rule, want = -1, api.ErrArg
		}
		p := many(t, n, directions[0])
		is(t, "P17.1: Add", p.add(now, l), want)
		if isNil {
			is(t, "P17.1: Add to nil", none.Add(now, l), api.ErrNil)
		}
		p.known()
	}
}

// TestRemove removes each of some associations, and what is not there.
func TestRemove(t *testing.T) {
	for _, out := range directions {
		for _, n := range []int{1, 2, 3, 5, 31, 32} {
			for at := range n {
				p := many(t, n, out)
				is(t, "P17.1: Remove", p.remove(1000+at, !out(at)), api.ErrNone)
				is(t, "P17.1: Remove", p.remove(1000+n, out(at)), api.ErrNone)
				is(t, "P17.1: Remove", p.remove(999, out(at)), api.ErrNone)
				is(t, "P17.1: Remove", p.remove(at, out(at)), api.ErrNone)
				p.listed()
				is(t, "P17.1: Remove", p.remove(1000+at, out(at)), api.OK)
				p.listed()
				is(t, "P17.1: Remove", p.remove(1000+at, out(at)), api.ErrNone)
				p.known()
			}
		}
	}
}

// TestRemoveDirection removes one of two associations with the same Spi.
func TestRemoveDirection(t *testing.T) {
	for _, out := range []bool{true, false} {
		for _, first := range []bool{true, false} {
			p := fresh(t, life(256, first), life(256, !first))
			p.send(0, 256, 5)
			p.take(0, 256, 9, 5)
			is(t, "P17.1: Remove", p.remove(256, out), api.OK)
			p.known()
			is(t, "P17.1: Remove", p.remove(256, out), api.ErrNone)
			p.known()
			is(t, "P17.1: Remove", p.remove(256, !out), api.OK)
			is(t, "P17.1: Remove", p.remove(256, !out), api.ErrNone)
			p.known()
		}
	}
}

// TestRemoveAll removes all associations, in several orders, and adds others.
func TestRemoveAll(t *testing.T) {
	for _, from := range []func(n int) int{func(n int) int { return n - 1 }, func(int) int { return 0 }, func(n int) int { return n / 2 }} {
		p := many(t, 32, directions[2])
		for n := 32; n > 0; n-- {
			l := p.m.list[from(n)].life
			is(t, "P17.1: Remove", p.remove(l.Sa.Spi, l.Out), api.OK)
			p.listed()
		}
		p.known()
		for i := range 33 {
			p.add(0, life(5000-i, i%3 == 0))
			p.listed()
		}
		p.known()
	}
}

// TestAddAgain removes an association that was used and adds it again: nothing of
// the first one is left.
func TestAddAgain(t *testing.T) {
	for _, out := range []bool{true, false} {
		p := fresh(t, limited(256, out, 10, 20, 100, 200), life(257, out))
		for i := range 3 {
			p.send(0, 256, 6)
			p.take(0, 256, uint64(70+i), 6)
		}
		p.age(0, 256, out)
		p.age(90, 256, out)
		is(t, "P17.1: Remove", p.remove(256, out), api.OK)
		is(t, "P17.1: Add", p.add(150, limited(256, out, 10, 20, 100, 200)), api.OK)
		for _, now := range []int{0, 149, 150, 249, 250, 349, 350} {
			p.age(now, 256, out)
		}
		p.same()
		p.send(150, 256, 9)
		p.look(150, 256, 71)
		p.look(150, 256, 1)
		p.take(150, 256, 1, 9)
		p.known()
	}
}

// TestAgeNone asks for ages of what is not there.
func TestAgeNone(t *testing.T) {
	p := fresh(t, limited(256, true, 0, 0, 1, 2), limited(257, false, 0, 0, 1, 2))
	for _, c := range []struct {
		spi int
		out bool
	}{{256, false}, {257, true}, {258, true}, {258, false}, {0, true}, {-1, false}, {math.MinInt, true}, {math.MaxInt, false}, {256 + lows, true}} {
		for _, now := range moments {
			if n, e := p.s.Age(now, c.spi, c.out); n != 0 || e != api.ErrNone {
				t.Errorf("P17.1: Age(%d, %d, %t) = %d, %d, not 0, %d", now, c.spi, c.out, n, e, api.ErrNone)
			}
		}
	}
	p.known()
}

// used is a database with one association, added at a time, of which some bytes
// went by.
func used(t *testing.T, added int, l api.Life, bytes int) *pair {
	t.Helper()
	p := fresh(t)
	p.add(added, l)
	if l.Out {
		p.send(added, l.Sa.Spi, bytes)
	} else {
		p.take(added, l.Sa.Spi, 1, bytes)
	}
	return p
}

// TestAgeEach asks for ages below, at and above each limit alone.
func TestAgeEach(t *testing.T) {
	for _, out := range []bool{true, false} {
		for which, want := range []int{1, 2, 1, 2} {
			var n [4]int
			n[which] = 50
			for _, c := range []struct{ amount, age int }{{0, 0}, {1, 0}, {48, 0}, {49, 0}, {50, want}, {51, want}, {1000, want}} {
				bytes, now := c.amount, 1007
				if which >= 2 {
					bytes, now = 1000, 1007+c.amount
				}
				p := used(t, 1007, limited(256, out, n[0], n[1], n[2], n[3]), bytes)
				if age, e := p.s.Age(now, 256, out); age != c.age || e != api.OK {
					t.Errorf("P17.1: limits %v, outbound %t: at %d of 50, Age = %d, %d, not %d", n, out, c.amount, age, e, c.age)
				}
				p.same()
			}
		}
	}
}

// TestAgeEvery asks for ages with all sets of limits, some of them less than those
// that they go with.
func TestAgeEvery(t *testing.T) {
	limits := []int{0, 1, 10, 20}
	for set := range 256 { // four to the power of how many limits there are
		l := limited(256, set%3 == 0, limits[set&3], limits[set>>2&3], limits[set>>4&3], limits[set>>6])
		for _, bytes := range []int{0, 1, 9, 10, 11, 19, 20, 21} {
			p := used(t, 5, l, bytes)
			for _, now := range []int{-20, -1, 0, 4, 5, 6, 14, 15, 16, 24, 25, 26} {
				p.age(now, 256, l.Out)
			}
		}
	}
}

// TestAgeOwn gives associations of both directions with the same limits unlike
// times and unlike numbers of bytes: each has its own age.
func TestAgeOwn(t *testing.T) {
	p := fresh(t)
	for i := range 10 {
		p.add(20*i, limited(256+i/2, i%2 == 0, 50, 100, 100, 200))
	}
	for i := range 5 {
		for range i + 1 {
			p.send(0, 256+i, 10)
		}
		p.take(0, 256+i, uint64(1000-i), 110-20*i)
	}
	p.same()
	for now := 0; now < 500; now += 5 {
		for i := range 10 {
			p.age(now, 256+i/2, i%2 == 0)
		}
		p.pick(now, 1)
	}
}

// TestAgeFar asks for ages far before and after an Add, with limits of all sizes.
func TestAgeFar(t *testing.T) {
	far := []int{math.MinInt, math.MinInt + 1, math.MinInt32, -1, 0, 1, 2, 3, 1999999999, 2000000000}
	for _, added := range []int{0, 1, 2000000000} {
		for _, limit := range []int{1, 2, 1999999999, 2000000000, math.MaxInt32, math.MaxInt - 1, math.MaxInt} {
			p := fresh(t)
			p.add(added, limited(256, true, 0, 0, limit, 0))
			p.add(added, limited(257, false, 0, 0, 0, limit))
			p.add(added, limited(258, true, limit, 0, 0, 0))
			p.add(added, limited(258, false, limit, math.MaxInt, 0, 0))
			p.add(added, limited(259, true, 0, 0, limit, 1))
			for seq, n := range []int{0, 1999999998, 1, 1, 147483647} { // in all, the most that is promised for
				p.send(added, 258, n)
				p.take(added, 258, uint64(1+seq), n)
				for _, now := range far {
					for spi := range 4 {
						p.age(now, 256+spi, true)
						p.age(now, 256+spi, false)
					}
					p.pick(now, 1)
				}
			}
		}
	}
}

// varied is a valid entry whose fields are unlike those of the others up to the
// 32nd.
func varied(i int) api.Life {
	text := func(n int) string { return strings.Repeat(string([]byte{byte(200 + i)}), n) }
	return api.Life{
		Sa:        api.Sa{Spi: 4294967295 - 7*(i%20), Key: text(16 + i%2*16), Salt: text(4), Mac: text(32), Esn: i%3 == 0, Window: 64 + 30*i},
		Rule:      100 - i,
		Out:       i < 20,
		SoftBytes: 1 + i,
		MostBytes: 100 - i,
		SoftTime:  200 + i,
		MostTime:  300 - i,
	}
}

// TestList asks for entries with all fields set, in the order of their Adds.
func TestList(t *testing.T) {
	var want []api.Life
	s := sad.New()
	for i := range 32 {
		l := varied(i)
		want = append(want, l)
		is(t, "P17.1: Add", s.Add(1000-i, l), api.OK)
		if list := s.List(); !slices.Equal(list, want) {
			t.Fatalf("P17.1: List() = %+v, not %+v", list, want)
		}
	}
	s.Send(1000, 4294967295, 1000) // the list does not tell that it was used
	if list := s.List(); !slices.Equal(list, want) {
		t.Errorf("P17.1: List() = %+v, not %+v", list, want)
	}
}

// TestNil calls each method on no database, with right and wrong arguments.
func TestNil(t *testing.T) {
	var none *sad.Sad
	if list := none.List(); len(list) != 0 {
		t.Errorf("P17.1: List() of nil = %v", list)
	}
	numbers := []int{math.MinInt, -1, 0, 1, 255, 256, lows - 1, lows, math.MaxInt}
	for _, now := range numbers {
		for _, spi := range numbers {
			for _, out := range []bool{true, false} {
				is(t, "P17.1: Add to nil", none.Add(now, life(spi, out)), api.ErrNil)
				is(t, "P17.1: Add to nil", none.Add(now, api.Life{Rule: spi}), api.ErrNil)
				is(t, "P17.1: Remove of nil", none.Remove(spi, out), api.ErrNil)
				if n, e := none.Age(now, spi, out); n != 0 || e != api.ErrNil {
					t.Errorf("P17.1: Age(%d, %d, %t) of nil = %d, %d", now, spi, out, n, e)
				}
			}
			if n, e := none.Pick(now, spi); n != 0 || e != api.ErrNil {
				t.Errorf("P17.1: Pick(%d, %d) of nil = %d, %d", now, spi, n, e)
			}
			for _, n := range numbers {
				if sa, seq, e := none.Send(now, spi, n); sa != (api.Sa{}) || seq != 0 || e != api.ErrNil {
					t.Errorf("P17.1: Send(%d, %d, %d) of nil = %+v, %d, %d", now, spi, n, sa, seq, e)
				}
				if l, seq, e := none.Look(now, spi, n); l != (api.Life{}) || seq != 0 || e != api.ErrNil {
					t.Errorf("P17.1: Look(%d, %d, %d) of nil = %+v, %d, %d", now, spi, n, l, seq, e)
				}
				is(t, "P17.1: Take of nil", none.Take(now, spi, 1, n), api.ErrNil)
				is(t, "P17.1: Take of nil", none.Take(now, spi, uint64(n), 1), api.ErrNil)
			}
		}
	}
}
