package sad_test

import (
	"math"
	"testing"

	"redoubt/api"
	"redoubt/sad"
)

// seen fails unless Look answers an entry and a number, or an error and neither.
func seen(t *testing.T, s *sad.Sad, l api.Life, low int, want uint64, wrong api.Errno) {
	t.Helper()
	if wrong != api.OK {
		l, want = api.Life{}, 0
	}
	if a, n, e := s.Look(0, 256, low); a != l || n != want || e != wrong {
		t.Fatalf("P17.3: Look(0, 256, %d) = %+v, %d, %d, not %+v, %d, %d", low, a, n, e, l, want, wrong)
	}
}

// TestLookShort looks for packets of numbers of 32 bits: new ones, accepted ones,
// and such as stand at the window's edge, behind it and ahead of it.
func TestLookShort(t *testing.T) {
	s, l := sad.New(), limited(256, false, 1000, 2000, 3000, 4000)
	is(t, "P17.1: Add", s.Add(0, l), api.OK)
	seen(t, s, l, 0, 0, api.ErrReplay)
	seen(t, s, l, 1, 1, api.OK)
	seen(t, s, l, 4294967295, 4294967295, api.OK)
	for _, seq := range []uint64{5, 100, 90} {
		is(t, "P17.3: Take", s.Take(0, 256, seq, 1), api.OK)
	}
	for _, c := range []struct {
		low   int
		wrong api.Errno
	}{
		{0, api.ErrReplay}, {1, api.ErrReplay}, {5, api.ErrReplay}, {35, api.ErrReplay}, {36, api.ErrReplay}, {37, api.OK}, {38, api.OK},
		{89, api.OK}, {90, api.ErrReplay}, {91, api.OK}, {99, api.OK}, {100, api.ErrReplay}, {101, api.OK}, {164, api.OK}, {1 << 20, api.OK}, {4294967295, api.OK},
		{-1, api.ErrArg}, {math.MinInt, api.ErrArg}, {4294967296, api.ErrArg}, {4294967296 + 101, api.ErrArg}, {math.MaxInt, api.ErrArg},
	} {
		seen(t, s, l, c.low, uint64(c.low), c.wrong)
	}
}

// TestLookLong looks for packets of numbers of 64 bits by their low halves.
func TestLookLong(t *testing.T) {
	s, l := sad.New(), extended(256, false, 64)
	is(t, "P17.1: Add", s.Add(0, l), api.OK)
	seen(t, s, l, 1, 1, api.OK)
	seen(t, s, l, 0, 0, api.ErrReplay)
	seen(t, s, l, lows-1, 0, api.ErrReplay) // behind 0
	seen(t, s, l, lows-64, lows-64, api.OK)
	is(t, "P17.3: Take", s.Take(0, 256, 4294967300, 1), api.OK)
	is(t, "P17.3: Take", s.Take(0, 256, 4294967290, 1), api.OK)
	for _, c := range []struct {
		low   int
		want  uint64
		wrong api.Errno
	}{
		{5, 4294967301, api.OK}, {4, 0, api.ErrReplay}, {3, 4294967299, api.OK}, {0, 4294967296, api.OK}, {lows - 1, 4294967295, api.OK},
		{4294967290, 0, api.ErrReplay}, {4294967289, 4294967289, api.OK}, {4294967237, 4294967237, api.OK}, {4294967236, 8589934532, api.OK},
		{-1, 0, api.ErrArg}, {lows, 0, api.ErrArg}, {lows + 5, 0, api.ErrArg}, {math.MinInt, 0, api.ErrArg}, {math.MaxInt, 0, api.ErrArg},
	} {
		seen(t, s, l, c.low, c.want, c.wrong)
	}
	is(t, "P17.3: Take", s.Take(0, 256, last, 1), api.OK)
	seen(t, s, l, lows-1, 0, api.ErrReplay)
	seen(t, s, l, lows-2, last-1, api.OK)
	seen(t, s, l, 0, 0, api.ErrReplay) // beyond the last number of all
}

// TestLookKinds looks by associations of which only one is for the packet.
func TestLookKinds(t *testing.T) {
	for _, first := range []bool{true, false} {
		p := fresh(t, life(256, first), limited(256, !first, 0, 7, 0, 0), life(257, true), limited(258, false, 1, 0, 2, 0))
		for _, spi := range []int{256, 257, 258, 259, 255, 0, -1, 256 + lows, math.MinInt, math.MaxInt} {
			want := api.ErrNone
			if spi == 256 || spi == 258 {
				want = api.OK
			}
			for range 2 {
				is(t, "P17.3: Look", p.look(0, spi, 1), want)
			}
			is(t, "P17.3: Take", p.take(0, spi, 1, 5), want)
		}
		p.known()
	}
}

// TestLookAged looks, and takes, by associations of each age.
func TestLookAged(t *testing.T) {
	for age, want := range []api.Errno{api.OK, api.OK, api.ErrHard} {
		p := agedAll(t, []int{age, age}, []int{2, 2})
		for spi := 256; spi < 258; spi++ {
			is(t, "P17.3: Look", p.look(100, spi, 8), want)
			is(t, "P17.3: Take", p.take(100, spi, 8, 0), want)
		}
		if age == 2 { // the first one is expired by its time
			is(t, "P17.3: Look", p.look(99, 256, 8), api.OK)
			is(t, "P17.3: Take", p.take(99, 256, 8, 0), api.OK)
			is(t, "P17.3: Look", p.look(99, 257, 8), api.ErrHard)
			is(t, "P17.3: Take", p.take(99, 257, 8, 0), api.ErrHard)
		}
		p.known()
	}
}

// TestLookAsks looks for all sorts of packets, which must not change anything.
func TestLookAsks(t *testing.T) {
	for _, l := range []api.Life{limited(256, false, 10, 20, 30, 40), extended(256, false, 64), extended(256, false, 1024)} {
		p := fresh(t, l)
		p.take(0, 256, 100, 5)
		for range 2 {
			for _, low := range []int{-1, 0, 1, 36, 37, 99, 100, 101, 102, 163, 164, 165, 5000, lows - 1, lows} {
				for _, now := range []int{-1, 0, 29, 30, 39, 40, 41} {
					p.look(now, 256, low)
				}
				p.same()
			}
		}
		is(t, "P17.3: Take", p.take(0, 256, 37, 1), api.OK) // no number that was looked for moved the window
		is(t, "P17.3: Take", p.take(0, 256, 101, 1), api.OK)
		p.known()
	}
}

// TestTakeNumbers takes numbers of all kinds, new and old, in windows of several
// sizes.
func TestTakeNumbers(t *testing.T) {
	for _, size := range []int{64, 65, 100, 1023, 1024} {
		for _, esn := range []bool{false, true} {
			l, n := extended(256, false, size), uint64(size)
			l.Sa.Esn = esn
			p := fresh(t, l)
			take := func(seq uint64, want api.Errno) {
				t.Helper()
				is(t, "P17.3: Take", p.take(0, 256, seq, 3), want)
			}
			take(0, api.ErrReplay)
			take(2, api.OK)
			take(2, api.ErrReplay)
			take(1, api.OK)
			take(3*n, api.OK) // ahead of the window
			take(2*n, api.ErrReplay)
			take(2*n+1, api.OK) // at its edge
			take(2*n+1, api.ErrReplay)
			take(2*n+2, api.OK)
			take(3*n-1, api.OK)
			take(3*n, api.ErrReplay)
			take(3*n+1, api.OK)
			take(2*n+1, api.ErrReplay)
			take(2*n+3, api.OK)
			take(lows-1, api.OK)
			take(lows-1, api.ErrReplay)
			take(lows-n-1, api.ErrReplay)
			take(lows-n, api.OK)
			wrong := api.ErrArg
			if esn {
				wrong = api.OK
			}
			for _, seq := range []uint64{lows, lows + 1, lows + n, last - 1, last} {
				take(seq, wrong)
			}
			if esn {
				take(last, api.ErrReplay)
				take(last-n, api.ErrReplay)
				take(last-n+1, api.OK)
			}
			p.same()
		}
	}
}

// TestTakeBytes takes none, few and many bytes: what is accepted is counted, all
// of it, and for its association alone; what is refused is not.
func TestTakeBytes(t *testing.T) {
	for _, sizes := range [][]int{{0, 0, 0, 50}, {49, 0, 1}, {49, 2, 0}, {50}, {51}, {1, 48, 1, 1}, {25, 25, 25}, {1 << 30}, {math.MaxInt32}} {
		p := fresh(t, limited(256, false, 50, 0, 0, 0), limited(257, false, 50, 0, 0, 0), limited(256, true, 50, 0, 0, 0))
		for i, n := range sizes {
			p.same()
			is(t, "P17.3: Take", p.take(0, 256, uint64(500+i), n), api.OK)
			is(t, "P17.3: Take", p.take(0, 256, uint64(500+i), 1000), api.ErrReplay)
			is(t, "P17.3: Take", p.take(0, 256, 0, 1000), api.ErrReplay)
			is(t, "P17.3: Take", p.take(0, 256, lows, 1000), api.ErrArg)
			is(t, "P17.3: Take", p.take(0, 256, 600, -1000), api.ErrArg)
			is(t, "P17.3: Take", p.take(0, 258, 600, 1000), api.ErrNone)
			p.same()
		}
	}
}

// TestTakeOver takes more bytes than are left of an association's life.
func TestTakeOver(t *testing.T) {
	p := fresh(t, limited(256, false, 10, 30, 0, 0))
	is(t, "P17.3: Take", p.take(0, 256, 1, 29), api.OK)
	is(t, "P17.3: Look", p.look(0, 256, 2), api.OK)
	is(t, "P17.3: Take", p.take(0, 256, 2, 1000), api.OK)
	is(t, "P17.3: Look", p.look(0, 256, 3), api.ErrHard)
	is(t, "P17.3: Take", p.take(0, 256, 3, 0), api.ErrHard)
	p.same()
}

// TestTakeUnseen takes numbers that were not looked for: Look promises nothing for
// Take.
func TestTakeUnseen(t *testing.T) {
	p := fresh(t, extended(256, false, 64))
	is(t, "P17.3: Look", p.look(0, 256, 9), api.OK)
	is(t, "P17.3: Take", p.take(0, 256, lows*5+9, 1), api.OK)
	is(t, "P17.3: Look", p.look(0, 256, 9), api.ErrReplay)
	is(t, "P17.3: Take", p.take(0, 256, 9, 1), api.ErrReplay)
	p.known()
}

// TestLookOrder lets faults of Look meet: no database, an association that is not
// there, an expired one, and a low half that is none, or is that of a number that
// was accepted.
func TestLookOrder(t *testing.T) {
	var none *sad.Sad
	for faults := range 32 {
		isNil, isNone, isHard, isOdd, isOld := faults&1 != 0, faults&2 != 0, faults&4 != 0, faults&8 != 0, faults&16 != 0
		p := fresh(t, limited(256, false, 0, 0, 50, 100))
		p.take(0, 256, 9, 1)
		now, spi, low, want := 50, 256, 8, api.OK
		if isOld {
			low, want = 9, api.ErrReplay
		}
		if isOdd {
			low, want = low+lows, api.ErrArg
		}
		if isHard {
			now, want = 100, api.ErrHard
		}
		if isNone {
			spi, want = 257, api.ErrNone
		}
		is(t, "P17.3: Look", p.look(now, spi, low), want)
		if isNil {
			_, _, e := none.Look(now, spi, low)
			is(t, "P17.1: Look of nil", e, api.ErrNil)
		}
		p.known()
	}
}

// TestTakeOrder lets faults of Take meet: no database, less than no bytes, an
// association that is not there, an expired one, and a number that is too great,
// or was accepted.
func TestTakeOrder(t *testing.T) {
	var none *sad.Sad
	for faults := range 64 {
		isNil, isLess, isNone, isHard, isOdd, isOld := faults&1 != 0, faults&2 != 0, faults&4 != 0, faults&8 != 0, faults&16 != 0, faults&32 != 0
		p := fresh(t, limited(256, false, 0, 0, 50, 100))
		p.take(0, 256, 9, 1)
		now, spi, seq, n, want := 50, 256, uint64(8), 3, api.OK
		if isOld {
			seq, want = 9, api.ErrReplay
		}
		if isOdd {
			seq, want = seq+lows, api.ErrArg
		}
		if isHard {
			now, want = 100, api.ErrHard
		}
		if isNone {
			spi, want = 257, api.ErrNone
		}
		if isLess {
			n, want = -1, api.ErrArg
		}
		is(t, "P17.3: Take", p.take(now, spi, seq, n), want)
		if isNil {
			is(t, "P17.1: Take of nil", none.Take(now, spi, seq, n), api.ErrNil)
		}
		p.known()
	}
}
