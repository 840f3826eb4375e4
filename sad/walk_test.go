package sad_test

import (
	"math"
	"slices"
	"strings"
	"testing"
	"unsafe"

	"redoubt/api"
	"redoubt/sad"
)

// TestSentOnce sends by associations of both kinds among other calls: the numbers
// of each rise by one, so that none is sent twice.
func TestSentOnce(t *testing.T) {
	s, d := sad.New(), &dice{1}
	for i := range 4 {
		is(t, "P17.1: Add", s.Add(0, limited(256+i, true, 0, 900000, 0, 0)), api.OK)
		is(t, "P17.1: Add", s.Add(0, extended(300+i, true, 64)), api.OK)
		is(t, "P17.1: Add", s.Add(0, life(256+i, false)), api.OK)
	}
	sent := map[int]uint64{}
	for range 40000 {
		spi := d.of(256, 300) + d.under(4)
		s.Take(0, spi, uint64(d.under(5000)), d.under(100))
		s.Pick(0, 1)
		s.Send(0, spi, -1)
		if d.once(300) { // what comes and goes beside it does not matter
			s.Add(0, life(400, d.once(2)))
			s.Remove(400, d.once(2))
		}
		_, seq, e := s.Send(0, spi, d.under(500))
		if e != api.OK {
			if seq != 0 {
				t.Fatalf("P17.2: Send answers %d with the error %d", seq, e)
			}
			continue
		}
		if sent[spi]++; seq != sent[spi] {
			t.Fatalf("P17.4: %d sends %d, and before it %d", spi, seq, sent[spi]-1)
		}
	}
	for i := range 4 {
		if sent[256+i] < 2000 || sent[300+i] < 4000 {
			t.Fatalf("P17.2: so few were sent: %v", sent)
		}
		if _, _, e := s.Send(0, 256+i, 0); e != api.ErrHard {
			t.Errorf("P17.2: Send = %d at the end, not %d", e, api.ErrHard)
		}
	}
}

// TestAcceptedOnce takes the same numbers many times in several orders, and counts
// how often each is accepted.
func TestAcceptedOnce(t *testing.T) {
	for _, l := range []api.Life{life(256, false), extended(256, false, 64), extended(256, false, 1000)} {
		for _, base := range []uint64{0, 5000, lows - 4000} {
			s, count := sad.New(), map[uint64]int{}
			is(t, "P17.1: Add", s.Add(0, l), api.OK)
			for _, stride := range []uint64{1, 7, 61, 1021, 2999} {
				for i := range uint64(3000) {
					n := base + i*stride%3000
					s.Look(0, 256, int(n))
					if s.Take(0, 256, n, 1) == api.OK {
						count[n]++
					}
					if s.Take(0, 256, n, 1) == api.OK {
						count[n]++
					}
				}
			}
			for n, c := range count {
				if c > 1 {
					t.Errorf("P17.4: %d was accepted %d times", n, c)
				}
			}
			if len(count) < 2999 || count[0] > 0 {
				t.Errorf("P17.3: %d numbers were accepted, 0 %d times", len(count), count[0])
			}
		}
	}
}

// TestAgesRise lets time pass and bytes go by, which never makes an association
// younger.
func TestAgesRise(t *testing.T) {
	d := &dice{2}
	limits := []int{0, 0, 1, 50, 300, 1000, 2000000, math.MaxInt}
	for range 300 {
		s, now, ages := sad.New(), 0, [8]int{}
		for i := range 8 {
			is(t, "P17.1: Add", s.Add(0, limited(256+i/2, i%2 == 0, d.of(limits...), d.of(limits...), d.of(limits...), d.of(limits...))), api.OK)
		}
		for step := range 200 {
			now += d.under(10)
			n := d.of(0, 1, d.under(20), d.under(20))
			if d.once(60) {
				n = 1000000
			}
			s.Send(now, 256+d.under(4), n)
			s.Take(now, 256+d.under(4), uint64(1000+step), n)
			for i, before := range ages {
				age, e := s.Age(now, 256+i/2, i%2 == 0)
				if age < before || age > 2 || e != api.OK {
					t.Fatalf("P17.4: an association of age %d has the age %d later, %d", before, age, e)
				}
				ages[i] = age
			}
		}
	}
}

// drawn is an entry that the dice choose, seldom one that is not valid.
func drawn(d *dice) api.Life {
	l := limited(256+d.under(24), d.once(2), d.of(0, 0, 20, 100), d.of(0, 0, 60, 300), d.of(0, 0, 10, 50), d.of(0, 0, 30, 150))
	l.Rule = d.under(3)
	l.Sa.Esn, l.Sa.Window = d.once(2), d.of(64, 65, 100, 1024)
	l.Sa.Key = strings.Repeat(string([]byte{byte(d.under(256))}), d.of(16, 32))
	if d.once(15) {
		wrongs := wrong()
		now := 0
		wrongs[d.under(len(wrongs))](&l, &now)
	}
	return l
}

// step makes one call that the dice choose.
func (p *pair) step(d *dice, now int) {
	p.Helper()
	spi, n := 256+d.under(24), d.of(-1, 0, 1, 5, 20)
	if len(p.m.list) > 0 && !d.once(5) {
		spi = p.m.list[d.under(len(p.m.list))].life.Sa.Spi
	}
	seq := uint64(d.of(d.under(200), d.under(2000), lows-100+d.under(200), 3*lows-50+d.under(100)))
	switch d.under(8) {
	case 0:
		p.add(now, drawn(d))
		p.listed()
	case 1:
		if d.once(4) {
			p.remove(spi, d.once(2))
			p.listed()
		}
	case 2:
		p.age(now, spi, d.once(2))
	case 3:
		p.pick(now, d.under(3))
	case 4, 5:
		p.send(now, spi, n)
	case 6:
		p.look(now, spi, int(seq%lows))
	case 7:
		p.take(now, spi, seq, n)
	}
}

// TestWalks makes calls without a plain order, at times that mostly rise.
func TestWalks(t *testing.T) {
	for seed := range uint64(150) {
		d, p, now := &dice{seed}, fresh(t), 0
		for range 1200 {
			now += d.under(3)
			if d.once(10) {
				p.step(d, now-d.under(40))
			}
			p.step(d, now)
		}
		p.known()
	}
}

// TestApart takes turns between databases, of which none knows of the others.
func TestApart(t *testing.T) {
	d, list := &dice{3}, []*pair{fresh(t), fresh(t), fresh(t)}
	for now := range 6000 {
		list[d.under(3)].step(d, now/2)
	}
	for _, p := range list {
		p.known()
	}
}

// TestRefusedChangesNothing passes what is refused, for every reason that there
// is, and asks for all that is there.
func TestRefusedChangesNothing(t *testing.T) {
	for n := 4; n <= 32; n += 7 {
		p := fresh(t, limited(256, true, 10, 20, 30, 40), limited(256, false, 10, 20, 30, 40), limited(257, true, 1, 5, 0, 0), extended(257, false, 64))
		for i := range n - 4 {
			p.add(0, limited(300+i, i%2 == 0, 0, 0, 50, 100))
		}
		p.send(0, 257, 5)
		p.take(0, 256, 100, 3)
		p.take(0, 257, lows, 3)
		for _, refused := range []func() api.Errno{
			func() api.Errno { return p.add(-1, life(500, true)) },
			func() api.Errno { return p.add(0, api.Life{}) },
			func() api.Errno { return p.add(50, limited(256, true, 9, 9, 9, 9)) },
			func() api.Errno { return p.add(50, extended(256, false, 1024)) },
			func() api.Errno { return p.remove(500, true) },
			func() api.Errno { return p.remove(500, false) },
			func() api.Errno { return p.send(0, 256, -5) },
			func() api.Errno { return p.send(0, 500, 5) },
			func() api.Errno { return p.send(40, 256, 5) },
			func() api.Errno { return p.send(0, 257, 5) },
			func() api.Errno { return p.look(0, 256, 100) },
			func() api.Errno { return p.look(0, 256, -1) },
			func() api.Errno { return p.look(40, 256, 101) },
			func() api.Errno { return p.take(0, 256, 101, -5) },
			func() api.Errno { return p.take(0, 500, 101, 5) },
			func() api.Errno { return p.take(40, 256, 5000, 5) },
			func() api.Errno { return p.take(0, 256, 100, 50) },
			func() api.Errno { return p.take(0, 256, 36, 50) },
			func() api.Errno { return p.take(0, 256, lows+200, 50) },
			func() api.Errno { return p.take(0, 257, lows-64, 50) },
		} {
			p.same()
			if refused() == api.OK {
				t.Fatal("this must be refused")
			}
			p.same()
		}
		p.known()
		p.take(0, 256, 37, 1)
		p.take(0, 256, 101, 1)
		p.known()
	}
}

// TestListIsNew alters lists, and the database after them.
func TestListIsNew(t *testing.T) {
	for _, n := range []int{1, 2, 31, 32} {
		p := many(t, n, directions[2])
		first, second := p.s.List(), p.s.List()
		kept := slices.Clone(second)
		for i := range first {
			first[i] = api.Life{Rule: -5}
		}
		first = append(first, life(256, true))
		first[0].Out = true
		p.known()
		if !slices.Equal(second, kept) {
			t.Errorf("P17.1: two lists of %d entries share memory", n)
		}
		p.remove(1000, true)
		p.add(0, life(256, true))
		if !slices.Equal(second, kept) {
			t.Errorf("P17.1: a list of %d entries goes with the database", n)
		}
		p.known()
	}
}

// room is memory that strings lie in which are altered with it.
type room []byte

// filled is a room whose bytes rise.
func filled() room {
	m := make(room, 64)
	for i := range m {
		m[i] = byte(i)
	}
	return m
}

// life is an entry whose strings lie in the room.
func (m room) life(out bool) api.Life {
	l := life(256, out)
	l.Sa.Key, l.Sa.Salt, l.Sa.Mac = unsafe.String(&m[0], 16), unsafe.String(&m[16], 4), unsafe.String(&m[20], 32)
	return l
}

// texts are the strings of an Sa.
func texts(sa api.Sa) []string { return []string{sa.Key, sa.Salt, sa.Mac} }

// answered are the Sas that a database with one association in each direction
// answers, in new answers of all the calls that answer any.
func answered(t *testing.T, s *sad.Sad) []api.Sa {
	t.Helper()
	list := s.List()
	sa, _, e := s.Send(0, 256, 0)
	is(t, "P17.2: Send", e, api.OK)
	l, _, e := s.Look(0, 256, 5)
	is(t, "P17.3: Look", e, api.OK)
	return []api.Sa{list[0].Sa, list[1].Sa, sa, l.Sa}
}

// TestEntriesAreKept alters the memory of entries after they were passed.
func TestEntriesAreKept(t *testing.T) {
	m, same, s := filled(), filled(), sad.New()
	for _, out := range []bool{true, false} {
		is(t, "P17.1: Add", s.Add(0, m.life(out)), api.OK)
	}
	if !slices.Equal(m, same) {
		t.Error("P17.1: Add alters what it is passed")
	}
	clear(m)
	for _, sa := range answered(t, s) {
		if sa != same.life(true).Sa {
			t.Errorf("P17.1: %+v is answered after the argument of Add was altered", sa)
		}
	}
}

// TestTextsAreNew holds where the strings of answers lie against where those that
// were passed, and those of other answers, lie, and alters some of them.
func TestTextsAreNew(t *testing.T) {
	m, s := filled(), sad.New()
	for _, out := range []bool{true, false} {
		is(t, "P17.1: Add", s.Add(0, m.life(out)), api.OK)
	}
	first, second := answered(t, s), answered(t, s)
	lies := map[*byte]bool{}
	for _, sa := range append(append([]api.Sa{m.life(true).Sa}, first...), second...) {
		for _, x := range texts(sa) {
			if p := unsafe.StringData(x); lies[p] {
				t.Fatal("P17.1: strings of an answer share memory with others")
			} else {
				lies[p] = true
			}
		}
	}
	for _, sa := range first { // they are in memory of their own, so they may be altered
		for _, x := range texts(sa) {
			clear(unsafe.Slice(unsafe.StringData(x), len(x)))
		}
	}
	for _, sa := range append(answered(t, s), second...) {
		if sa != filled().life(true).Sa {
			t.Errorf("P17.1: %+v is altered with another answer", sa)
		}
	}
}
