package sad_test

import (
	"math"
	"reflect"
	"testing"
	"unsafe"

	"redoubt/api"
	"redoubt/sad"
)

// aged is an entry that has an age at 100 if it is added at 0 and if 50 bytes go
// by it, which is so by its time or by its bytes.
func aged(l api.Life, age int, byTime bool) api.Life {
	switch {
	case age == 0:
		l.SoftBytes, l.MostBytes, l.SoftTime, l.MostTime = 51, 52, 101, 102
	case age == 1 && byTime:
		l.SoftTime, l.MostTime, l.MostBytes = 100, 101, 51
	case age == 1:
		l.SoftBytes, l.MostBytes, l.MostTime = 50, 51, 101
	case byTime:
		l.SoftTime, l.MostTime, l.MostBytes = 50, 100, 51
	default:
		l.SoftBytes, l.MostBytes, l.MostTime = 10, 50, 101
	}
	return l
}

// agedAll is a database whose associations have these ages at 100. The ith has the
// Spi 256 + i; for which rule and in which direction, kinds tells of each.
func agedAll(t *testing.T, ages []int, kinds []int) *pair {
	t.Helper()
	p := fresh(t)
	for i, age := range ages {
		l := aged(life(256+i, true), age, i%2 == 0)
		switch kinds[i] {
		case 1:
			l.Rule = 2
		case 2:
			l.Out = false
		}
		p.add(0, l)
		if p.send(0, 256+i, 50) != api.OK {
			p.take(0, 256+i, 7, 50)
		}
		if n := p.age(100, 256+i, l.Out); n != age {
			t.Fatalf("the age of %+v is %d, not %d", l, n, age)
		}
	}
	return p
}

// TestPickAges picks among associations of ages in any order.
func TestPickAges(t *testing.T) {
	for _, c := range []struct {
		ages []int
		want int // which one, or -1
	}{
		{nil, -1}, {[]int{0}, 0}, {[]int{1}, 0}, {[]int{2}, -1},
		{[]int{0, 0}, 0}, {[]int{0, 1}, 0}, {[]int{0, 2}, 0}, {[]int{1, 0}, 1}, {[]int{1, 1}, 1}, {[]int{1, 2}, 0},
		{[]int{2, 0}, 1}, {[]int{2, 1}, 1}, {[]int{2, 2}, -1},
		{[]int{1, 1, 0}, 2}, {[]int{1, 0, 0}, 1}, {[]int{1, 0, 1}, 1}, {[]int{1, 2, 1}, 2}, {[]int{1, 1, 2}, 1}, {[]int{2, 1, 0}, 2},
		{[]int{2, 2, 2}, -1}, {[]int{2, 2, 1}, 2}, {[]int{1, 2, 2}, 0}, {[]int{0, 2, 1}, 0}, {[]int{1, 1, 1, 1}, 3}, {[]int{2, 0, 0, 1}, 1},
	} {
		p := agedAll(t, c.ages, make([]int, len(c.ages)))
		spi, e := p.s.Pick(100, 1)
		if c.want < 0 && (spi != 0 || e != api.ErrNoSa) {
			t.Errorf("P17.2: ages %v: Pick = %d, %d, not 0, %d", c.ages, spi, e, api.ErrNoSa)
		}
		if c.want >= 0 && (spi != 256+c.want || e != api.OK) {
			t.Errorf("P17.2: ages %v: Pick = %d, %d, not %d", c.ages, spi, e, 256+c.want)
		}
		p.known()
	}
}

// TestPickEvery picks among up to four associations of all ages, of the rule and
// of another one, outbound and inbound, in all ways.
func TestPickEvery(t *testing.T) {
	for n := range 5 {
		ways := 1
		for range n {
			ways *= 9
		}
		for way := range ways {
			ages, kinds := make([]int, n), make([]int, n)
			for i := range n {
				ages[i], kinds[i] = way%3, way/3%3
				way /= 9
			}
			p := agedAll(t, ages, kinds)
			for _, now := range []int{0, 50, 99, 100, 101, 102} {
				p.pick(now, 1)
				p.pick(now, 2)
				p.pick(now, 3)
			}
		}
	}
}

// TestPickRules picks for rules of all kinds of numbers.
func TestPickRules(t *testing.T) {
	rules := []int{math.MinInt, -2, -1, 0, 1, 2, 1 << 32, 1<<32 + 1, math.MaxInt - 1, math.MaxInt}
	p := fresh(t)
	for i, rule := range []int{1, 0, 1 << 32, math.MaxInt, 1, 0} {
		p.add(0, ofRule(limited(256+i, true, 10, 0, 0, 0), rule))
		p.add(0, ofRule(life(400+i, false), rules[3+i])) // inbound ones are never picked
	}
	for i := range 7 {
		for _, rule := range rules {
			p.pick(i, rule)
		}
		p.send(0, 256+i, 10)
	}
	is(t, "P17.2: Pick", p.pick(0, -1), api.ErrNoSa)
	is(t, "P17.2: Pick", p.pick(0, 2), api.ErrNoSa)
}

// TestPickSame picks where an inbound association has the Spi of an outbound one.
func TestPickSame(t *testing.T) {
	for _, first := range []bool{true, false} {
		p := fresh(t, ofRule(life(256, first), 1), ofRule(life(256, !first), 1), ofRule(life(257, false), 2))
		is(t, "P17.2: Pick", p.pick(0, 1), api.OK)
		is(t, "P17.2: Pick", p.pick(0, 2), api.ErrNoSa)
		p.remove(256, true)
		is(t, "P17.2: Pick", p.pick(0, 1), api.ErrNoSa)
	}
}

// TestPickSucceeds lets associations succeed each other as time passes and bytes
// go by, and removes them.
func TestPickSucceeds(t *testing.T) {
	p := fresh(t)
	for i := range 8 {
		p.add(50*i, limited(256+i, true, 100, 150, 80, 120))
		for now := 50 * i; now < 50*i+50; now += 5 {
			spi, _ := p.m.pick(now, 1)
			is(t, "P17.2: Pick", p.pick(now, 1), api.OK)
			p.send(now, spi, 7)
		}
	}
	for now := 300; now < 600; now++ {
		p.pick(now, 1)
	}
	for i := range 8 {
		p.remove(256+i*3%8, true)
		for _, now := range []int{0, 200, 350, 400, 450, 500} {
			p.pick(now, 1)
		}
	}
}

// TestSendNumbers sends by several associations in turn: each has its own numbers,
// from 1 on, and its own Sa.
func TestSendNumbers(t *testing.T) {
	s := sad.New()
	for i := range 20 { // the outbound ones of these
		is(t, "P17.1: Add", s.Add(0, varied(i)), api.OK)
	}
	for seq := uint64(1); seq < 300; seq++ {
		for i := range 20 {
			l := varied(i)
			if seq%uint64(i+1) != 0 {
				continue
			}
			want := seq / uint64(i+1)
			if sa, n, e := s.Send(0, l.Sa.Spi, 0); sa != l.Sa || n != want || e != api.OK {
				t.Fatalf("P17.2: Send(0, %d, 0) = %+v, %d, %d, not %+v, %d", l.Sa.Spi, sa, n, e, l.Sa, want)
			}
		}
	}
}

// TestSendBytes sends none, few and many bytes: what is sent is counted, all of
// it, and for its association alone.
func TestSendBytes(t *testing.T) {
	for _, sizes := range [][]int{{0, 0, 0, 50}, {49, 0, 1}, {49, 2, 0}, {50}, {51}, {1, 48, 1, 1}, {25, 25, 25}, {1 << 30}, {math.MaxInt32}} {
		p := fresh(t, limited(256, true, 50, 0, 0, 0), limited(257, true, 50, 0, 0, 0), limited(256, false, 50, 0, 0, 0))
		for _, n := range sizes {
			p.same()
			is(t, "P17.2: Send", p.send(0, 256, n), api.OK)
			p.same()
		}
	}
}

// TestSendWrong sends what may not be sent, and by what is not there.
func TestSendWrong(t *testing.T) {
	p := fresh(t, limited(256, true, 10, 20, 0, 0), life(257, false))
	for _, n := range []int{-1, -2, -10, math.MinInt32, math.MinInt} {
		for _, spi := range []int{256, 257, 258, 0, -1} {
			is(t, "P17.2: Send", p.send(0, spi, n), api.ErrArg)
		}
		p.same()
	}
	for _, spi := range []int{257, 258, 255, 0, -1, -256, 256 + lows, math.MinInt, math.MaxInt} {
		for _, n := range []int{0, 1, 100, math.MaxInt} {
			is(t, "P17.2: Send", p.send(0, spi, n), api.ErrNone)
		}
		p.same()
	}
	p.known()
	is(t, "P17.2: Send", p.send(0, 256, 10), api.OK)
	p.known()
}

// TestSendAged sends by associations of each age: only an expired one is refused,
// and goes again where a time is passed at which it is not.
func TestSendAged(t *testing.T) {
	for _, byTime := range []bool{true, false} {
		for age, want := range []api.Errno{api.OK, api.OK, api.ErrHard} {
			ages := []int{age}
			if !byTime {
				ages = []int{0, age} // every other one is by its bytes
			}
			p := agedAll(t, ages, make([]int, len(ages)))
			spi := 255 + len(ages)
			for _, n := range []int{0, 0, 0} {
				is(t, "P17.2: Send", p.send(100, spi, n), want)
			}
			if byTime && age == 2 {
				is(t, "P17.2: Send", p.send(99, spi, 0), api.OK)
				is(t, "P17.2: Send", p.send(100, spi, 0), api.ErrHard)
			}
			p.known()
		}
	}
}

// TestSendOver sends more bytes than are left of an association's life.
func TestSendOver(t *testing.T) {
	p := fresh(t, limited(256, true, 10, 30, 0, 0))
	is(t, "P17.2: Send", p.send(0, 256, 29), api.OK)
	is(t, "P17.2: Send", p.send(0, 256, 1000), api.OK)
	is(t, "P17.2: Send", p.send(0, 256, 0), api.ErrHard)
	is(t, "P17.2: Send", p.send(0, 256, 1), api.ErrHard)
	p.same()
}

// walk goes through all that an object holds, each of its parts once.
type walk struct {
	been map[unsafe.Pointer]bool
	meet func(n *uint64) // called with each integer of 64 bits
}

func (w walk) parts(v reflect.Value) {
	switch v.Kind() {
	case reflect.Pointer:
		if !v.IsNil() && !w.been[v.UnsafePointer()] {
			w.been[v.UnsafePointer()] = true
			w.parts(v.Elem())
		}
	case reflect.Interface:
		if !v.IsNil() {
			w.parts(v.Elem())
		}
	case reflect.Struct:
		for i := range v.NumField() {
			w.parts(v.Field(i))
		}
	case reflect.Slice, reflect.Array:
		for i := range v.Len() {
			w.parts(v.Index(i))
		}
	case reflect.Map:
		for _, key := range v.MapKeys() {
			w.parts(v.MapIndex(key))
		}
	case reflect.Int, reflect.Int64, reflect.Uint, reflect.Uint64:
		if v.CanAddr() {
			w.meet((*uint64)(unsafe.Pointer(v.UnsafeAddr())))
		}
	}
}

// integers calls f with each integer of 64 bits that a database holds.
func integers(s *sad.Sad, f func(n *uint64)) {
	walk{map[unsafe.Pointer]bool{}, f}.parts(reflect.ValueOf(s))
}

// forward moves the last sequence number of an association forward to n: no test
// has the time to send as often. It takes for that number whatever rises by one
// with each Send, as the next number would too.
func (p *pair) forward(spi int, n uint64) {
	p.Helper()
	before, found := map[*uint64]uint64{}, 0
	integers(p.s, func(at *uint64) { before[at] = *at })
	for range 5 {
		is(p.T, "P17.2: Send", p.send(0, spi, 0), api.OK)
	}
	a := p.m.list[p.m.find(spi, true)]
	integers(p.s, func(at *uint64) {
		if *at == before[at]+5 {
			*at += n - a.last
			found++
		}
	})
	if found == 0 {
		p.Skip("the database keeps its sequence numbers in a way that this test does not know")
	}
	a.last = n
}

// TestSendEnd sends up to the end of the numbers of 32 bits, and beyond it with
// extended ones, up to their end.
func TestSendEnd(t *testing.T) {
	for _, c := range []struct {
		esn      bool
		from     uint64
		left     int
		mayGoOn  bool
		lastSent uint64
	}{
		{false, lows - 4, 3, false, lows - 1},
		{false, lows - 2, 1, false, lows - 1},
		{false, lows - 1, 0, false, lows - 1},
		{true, lows - 4, 40, true, lows + 36},
		{true, lows - 1, 1, true, lows},
		{true, 2*lows - 2, 3, true, 2*lows + 1},
		{true, last - 3, 3, false, last},
		{true, last - 1, 1, false, last},
		{true, last, 0, false, last},
	} {
		l := limited(256, true, 1000, 2000, 0, 0)
		l.Sa.Esn = c.esn
		p := fresh(t, life(257, true), l, life(256, false))
		p.forward(256, c.from)
		for range c.left {
			is(t, "P17.2: Send", p.send(0, 256, 1), api.OK)
		}
		if n := p.m.list[1].last; n != c.lastSent {
			t.Fatalf("P17.2: from %d, the last number sent is %d, not %d", c.from, n, c.lastSent)
		}
		if c.mayGoOn {
			is(t, "P17.2: Send", p.send(0, 256, 1), api.OK)
			continue
		}
		for _, n := range []int{0, 1, 1000, math.MaxInt} { // none of these are counted
			is(t, "P17.2: Send", p.send(0, 256, n), api.ErrEnd)
		}
		p.same() // it may be picked all the same
		is(t, "P17.2: Send", p.send(0, 257, 1), api.OK)
		is(t, "P17.2: Remove", p.remove(256, true), api.OK)
		is(t, "P17.2: Add", p.add(0, l), api.OK)
		p.known()
	}
}

// TestSendOrder lets faults of Send meet: no database, less than no bytes, an
// association that is not there, an expired one, and numbers at their end.
func TestSendOrder(t *testing.T) {
	var none *sad.Sad
	for faults := range 32 {
		isNil, isLess, isNone, isHard, isEnd := faults&1 != 0, faults&2 != 0, faults&4 != 0, faults&8 != 0, faults&16 != 0
		p := fresh(t, life(300, true), limited(256, true, 0, 0, 50, 100))
		if isEnd {
			p.forward(256, lows-1)
		}
		now, spi, n, want := 50, 256, 3, api.OK
		if isEnd {
			want = api.ErrEnd
		}
		if isHard {
			now, want = 100, api.ErrHard
		}
		if isNone {
			spi, want = 257, api.ErrNone
		}
		if isLess {
			n, want = -1, api.ErrArg
		}
		is(t, "P17.2: Send", p.send(now, spi, n), want)
		if isNil {
			_, _, e := none.Send(now, spi, n)
			is(t, "P17.1: Send of nil", e, api.ErrNil)
		}
		p.known()
	}
}
