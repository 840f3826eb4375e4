package window_test

import (
	"math"
	"math/big"
	"testing"

	"redoubt/api"
	"redoubt/window"
)

const (
	lows = 1 << 32        // how many numbers have the same high half
	last = math.MaxUint64 // the greatest number of all
)

// sizes are right ones: the least, the greatest, those beside them, and between.
var sizes = []int{64, 65, 100, 128, 1000, 1023, 1024}

// edges are the numbers at which a half begins or ends.
var edges = []uint64{0, 1, 2, lows - 2, lows - 1, lows, lows + 1, 2*lows - 1, 2 * lows, 2*lows + 1, last - lows, last - lows + 1, last - 1, last}

// made is a window that must be made.
func made(t *testing.T, size int, wide bool) *window.Window {
	t.Helper()
	w, e := window.New(size, wide)
	if w == nil || e != api.OK {
		t.Fatalf("P13.1: New(%d, %t) = %v, %d", size, wide, w, e)
	}
	return w
}

// model is what a window must know, by the chapter's words: its accepted numbers
// stand in a set, all of them, and its numbers are integers without an end.
type model struct {
	size int
	wide bool
	top  uint64
	had  map[uint64]bool
}

// whole is a number as an integer without an end.
func whole(n uint64) *big.Int {
	return new(big.Int).SetUint64(n)
}

// behind tells whether n + size is at most the top.
func (m *model) behind(n uint64) bool {
	return new(big.Int).Add(whole(n), big.NewInt(int64(m.size))).Cmp(whole(m.top)) <= 0
}

// check is what Check must answer.
func (m *model) check(n uint64) api.Errno {
	switch {
	case !m.wide && n > 4294967295:
		return api.ErrArg
	case n == 0 || m.had[n] || m.behind(n):
		return api.ErrReplay
	}
	return api.OK
}

// accept is what Accept must answer, and takes the number in.
func (m *model) accept(n uint64) api.Errno {
	e := m.check(n)
	if e == api.OK {
		m.had[n] = true
		m.top = max(m.top, n)
	}
	return e
}

// infer is what Infer must answer. It tries every high half that is near for the
// one number that is greater than top - size, but not by more than 2^32.
func (m *model) infer(low int) (uint64, api.Errno) {
	if low < 0 || low > 4294967295 {
		return 0, api.ErrArg
	}
	if !m.wide {
		return uint64(low), api.OK
	}
	end := new(big.Int).Sub(whole(m.top), big.NewInt(int64(m.size)))
	for step := int64(-2); step <= 2; step++ {
		n := big.NewInt(int64(m.top/lows) + step)
		n.Add(n.Mul(n, big.NewInt(lows)), big.NewInt(int64(low)))
		over := new(big.Int).Sub(n, end)
		if over.Sign() <= 0 || over.Cmp(big.NewInt(lows)) > 0 {
			continue
		}
		if n.Sign() < 0 || !n.IsUint64() {
			return 0, api.ErrReplay
		}
		return n.Uint64(), api.OK
	}
	panic("no number has this low half")
}

// pair is a window and what it must know.
type pair struct {
	*testing.T
	w *window.Window
	m *model
}

// fresh is a window without accepted numbers.
func fresh(t *testing.T, size int, wide bool) *pair {
	t.Helper()
	return &pair{t, made(t, size, wide), &model{size: size, wide: wide, had: map[uint64]bool{}}}
}

// raised is a window with one accepted number, or with none if it is 0 or one
// that the window can't have.
func raised(t *testing.T, size int, wide bool, top uint64) *pair {
	t.Helper()
	p := fresh(t, size, wide)
	if top > 0 {
		p.accept(top)
	}
	return p
}

// topped fails unless Top answers the greatest accepted number.
func (p *pair) topped() {
	p.Helper()
	if n := p.w.Top(); n != p.m.top {
		p.Errorf("P13.1: size %d, wide %t: Top() = %d, not %d", p.m.size, p.m.wide, n, p.m.top)
	}
}

// check fails unless Check answers what it must.
func (p *pair) check(n uint64) {
	p.Helper()
	if e := p.w.Check(n); e != p.m.check(n) {
		p.Errorf("P13.2: size %d, wide %t, top %d: Check(%d) = %d, not %d", p.m.size, p.m.wide, p.m.top, n, e, p.m.check(n))
	}
}

// accept fails unless Check and Accept answer what they must, and Top after both.
func (p *pair) accept(n uint64) {
	p.Helper()
	p.check(n)
	p.topped()
	top := p.m.top
	want := p.m.accept(n)
	if e := p.w.Accept(n); e != want {
		p.Errorf("P13.2: size %d, wide %t, top %d: Accept(%d) = %d, not %d", p.m.size, p.m.wide, top, n, e, want)
	}
	p.topped()
}

// infer fails unless Infer answers what it must.
func (p *pair) infer(low int) {
	p.Helper()
	want, f := p.m.infer(low)
	if n, e := p.w.Infer(low); n != want || e != f {
		p.Errorf("P13.3: size %d, wide %t, top %d: Infer(%d) = %d, %d, not %d, %d", p.m.size, p.m.wide, p.m.top, low, n, e, want, f)
	}
}

// around asks for all numbers of the window and for some on both its sides.
func (p *pair) around() {
	p.Helper()
	far := uint64(p.m.size) + 70
	for n := p.m.top - far; n != p.m.top+far; n++ {
		p.check(n)
	}
	for _, n := range edges {
		p.check(n)
	}
	p.topped()
}

// ends are the numbers that stand where something changes for a window.
func ends(size int, top uint64) []uint64 {
	s := uint64(size)
	list := []uint64{top, top - s, top + s, top - 2*s, top + 2*s, top - lows, top + lows, top + lows - s, 0, s, lows, lows + s, last}
	var all []uint64
	for _, n := range list {
		all = append(all, n-2, n-1, n, n+1, n+2)
	}
	return all
}

// tops are numbers for a window to have as its top: below, at and above its size,
// with a low half below, at and above size - 1, beside high halves of all kinds.
func tops(size int) []uint64 {
	s := uint64(size)
	var list []uint64
	for _, high := range []uint64{0, 1, 2, 3, lows / 2, lows - 2, lows - 1} {
		for _, low := range []uint64{0, 1, 2, 63, s - 2, s - 1, s, s + 1, 2*s - 1, 2 * s, 5000, lows / 2, lows - s - 1, lows - s, lows - s + 1, lows - 2, lows - 1} {
			list = append(list, high*lows+low)
		}
	}
	return list
}

// TestExamples holds the calls against the chapter's examples.
func TestExamples(t *testing.T) {
	w := made(t, 64, true)
	for _, x := range []struct {
		n uint64
		e api.Errno
	}{{5, api.OK}, {5, api.ErrReplay}, {100, api.OK}, {36, api.ErrReplay}, {37, api.OK}} {
		if e := w.Accept(x.n); e != x.e {
			t.Errorf("P13.2: Accept(%d) = %d, not %d", x.n, e, x.e)
		}
	}
	if e := w.Accept(4294967300); e != api.OK || w.Top() != 4294967300 {
		t.Errorf("P13.2: Accept(4294967300) = %d, and Top() = %d", e, w.Top())
	}
	for low, want := range map[int]uint64{5: 4294967301, 4294967290: 4294967290} {
		if n, e := w.Infer(low); n != want || e != api.OK {
			t.Errorf("P13.3: Infer(%d) = %d, %d, not %d", low, n, e, want)
		}
	}
}

// TestNew makes windows of all right sizes, and of wrong ones.
func TestNew(t *testing.T) {
	for _, wide := range []bool{false, true} {
		for size := -1100; size < 1100; size++ {
			if size >= 64 && size <= 1024 {
				if n := made(t, size, wide).Top(); n != 0 {
					t.Errorf("P13.1: size %d, wide %t: Top() = %d, not 0", size, wide, n)
				}
			} else if w, e := window.New(size, wide); w != nil || e != api.ErrArg {
				t.Errorf("P13.1: New(%d, %t) = %v, %d, not %d", size, wide, w, e, api.ErrArg)
			}
		}
		for _, size := range []int{math.MinInt, math.MinInt + 64, math.MinInt32, -65536, 65536, 1 << 16, 1<<16 + 64, math.MaxInt32, lows, lows + 64, math.MaxInt} {
			if w, e := window.New(size, wide); w != nil || e != api.ErrArg {
				t.Errorf("P13.1: New(%d, %t) = %v, %d, not %d", size, wide, w, e, api.ErrArg)
			}
		}
	}
}

// TestNil calls each method of no window, with right and wrong arguments.
func TestNil(t *testing.T) {
	var w *window.Window
	for _, n := range edges {
		if e := w.Check(n); e != api.ErrNil {
			t.Errorf("P13.1: nil: Check(%d) = %d, not %d", n, e, api.ErrNil)
		}
		if e := w.Accept(n); e != api.ErrNil {
			t.Errorf("P13.1: nil: Accept(%d) = %d, not %d", n, e, api.ErrNil)
		}
	}
	for _, low := range []int{math.MinInt, -1, 0, 1, 4294967295, 4294967296, math.MaxInt} {
		if n, e := w.Infer(low); n != 0 || e != api.ErrNil {
			t.Errorf("P13.1: nil: Infer(%d) = %d, %d, not 0, %d", low, n, e, api.ErrNil)
		}
	}
	if n := w.Top(); n != 0 {
		t.Errorf("P13.1: nil: Top() = %d, not 0", n)
	}
}

// TestFirst passes each edge to windows without numbers, twice.
func TestFirst(t *testing.T) {
	for _, size := range sizes {
		for _, x := range []struct {
			n            uint64
			narrow, wide api.Errno
		}{
			{0, api.ErrReplay, api.ErrReplay},
			{1, api.OK, api.OK},
			{63, api.OK, api.OK},
			{4294967295, api.OK, api.OK},
			{4294967296, api.ErrArg, api.OK},
			{4294967297, api.ErrArg, api.OK},
			{1 << 63, api.ErrArg, api.OK},
			{18446744073709551615, api.ErrArg, api.OK},
		} {
			for wide, want := range map[bool]api.Errno{false: x.narrow, true: x.wide} {
				w, top := made(t, size, wide), uint64(0)
				if e := w.Check(x.n); e != want || w.Top() != 0 {
					t.Errorf("P13.2: size %d, wide %t: Check(%d) = %d, not %d", size, wide, x.n, e, want)
				}
				if want == api.OK {
					top = x.n
				}
				if e := w.Accept(x.n); e != want || w.Top() != top {
					t.Errorf("P13.2: size %d, wide %t: Accept(%d) = %d, not %d; Top() = %d", size, wide, x.n, e, want, w.Top())
				}
				if want == api.OK {
					want = api.ErrReplay
				}
				if e := w.Accept(x.n); e != want || w.Top() != top {
					t.Errorf("P13.2: size %d, wide %t: second Accept(%d) = %d, not %d; Top() = %d", size, wide, x.n, e, want, w.Top())
				}
			}
		}
	}
}

// TestBehind passes numbers at the window's lower end: the last one inside is
// taken, once, and the first one outside is not, even where n + size has no 64 bits.
func TestBehind(t *testing.T) {
	for _, size := range sizes {
		s := uint64(size)
		for _, top := range []uint64{s, s + 1, s + 2, 2*s - 1, 2 * s, 5000, lows - 1, lows, lows + s - 1, lows + s, 1 << 63, last - s, last - 1, last} {
			w := made(t, size, true)
			for i, x := range []struct {
				n uint64
				e api.Errno
			}{
				{top, api.OK}, {top, api.ErrReplay}, {top - s, api.ErrReplay}, {top - s + 1, api.OK}, {top - s + 1, api.ErrReplay},
				{top - s + 2, api.OK}, {top - s, api.ErrReplay}, {top - 1, api.OK}, {top - 1, api.ErrReplay}, {0, api.ErrReplay}, {1, api.ErrReplay},
			} {
				if x.n == 1 && top == s { // the last one inside, taken above
					continue
				}
				if e := w.Check(x.n); e != x.e {
					t.Errorf("P13.2: %d: size %d, top %d: Check(%d) = %d, not %d", i, size, top, x.n, e, x.e)
				}
				if e := w.Accept(x.n); e != x.e || w.Top() != top {
					t.Errorf("P13.2: %d: size %d, top %d: Accept(%d) = %d, not %d; Top() = %d", i, size, top, x.n, e, x.e, w.Top())
				}
			}
		}
	}
}

// TestEdges passes the numbers where something changes to windows with tops of
// all kinds, each to a window of its own, and asks for all numbers around it.
func TestEdges(t *testing.T) {
	for _, size := range []int{64, 65, 1024} {
		for _, wide := range []bool{false, true} {
			for _, top := range tops(size) {
				if !wide && top >= lows {
					raised(t, size, wide, top).around()
					continue
				}
				for i, n := range ends(size, top) {
					p := raised(t, size, wide, top)
					p.accept(n)
					if i%5 == 2 || size == 64 {
						p.around()
					}
					p.accept(n)
				}
			}
		}
	}
}

// TestBelowSize fills windows whose top is less than their size, from 1 on and
// from the top down: 0 is never taken, and nothing is behind.
func TestBelowSize(t *testing.T) {
	for _, size := range []int{64, 65, 1023, 1024} {
		for _, wide := range []bool{false, true} {
			up, down := fresh(t, size, wide), fresh(t, size, wide)
			for i := range uint64(size) + 2 {
				up.accept(i)
				down.accept(uint64(size) + 1 - i)
			}
			up.around()
			down.around()
			for i := range uint64(size) + 2 {
				up.accept(i)
				down.accept(i)
			}
		}
	}
}

// TestJumps fills a window and passes a number above it, by all that is up to
// more than twice the size, and by far more: all that came into the window is
// new, and what is still inside is not.
func TestJumps(t *testing.T) {
	for _, size := range []int{64, 65, 1023, 1024} {
		s := uint64(size)
		jumps := []uint64{1, 2, 3, s/2 - 1, s / 2, s - 2, s - 1, s, s + 1, s + 2, 2*s - 1, 2 * s, 2*s + 1, 3 * s, 1 << 16, lows - 1, lows, lows + 1, 1 << 40, last - 5*s}
		if size < 100 {
			for n := range 3 * s {
				jumps = append(jumps, n+1)
			}
		}
		for _, jump := range jumps {
			for _, start := range []uint64{s, s + 7, 2*s - 1} {
				p := fresh(t, size, true)
				for n := start - s; n <= start; n++ {
					p.accept(n)
				}
				p.accept(start + jump)
				p.around()
				for n := range p.m.had { // all that were taken are refused now
					if e := p.w.Accept(n); e != api.ErrReplay {
						t.Errorf("P13.4: size %d, jump %d: second Accept(%d) = %d", size, jump, n, e)
					}
				}
				p.around()
				p.accept(start + jump - s + 1)
				p.accept(start + jump + 1)
				p.around()
			}
		}
	}
}

// TestSteps goes up by the same step many times, so that the top stands at every
// place of the ring, and fills what was left out before it goes on.
func TestSteps(t *testing.T) {
	for _, size := range []int{64, 65, 100} {
		s := uint64(size)
		for _, step := range []uint64{1, 2, 3, 7, s / 2, s - 1, s, s + 1, s + 3, 2*s - 1} {
			for _, start := range []uint64{1, lows - 3*s, last - s*step} {
				p := raised(t, size, true, start)
				for range 2 * s {
					if p.m.top > last-step {
						break
					}
					p.accept(p.m.top + step)
					p.accept(p.m.top - s)
					p.accept(p.m.top - s + 1)
					p.accept(p.m.top - step + 1)
					p.accept(p.m.top - 1)
				}
				p.around()
			}
		}
	}
}

// TestSequences passes all sequences of four numbers, which stand near each other
// or a size apart, to windows of the least size.
func TestSequences(t *testing.T) {
	list := []uint64{0, 1, 2, 63, 64, 65, 66, 127, 128, 129, 192, 200}
	for _, wide := range []bool{false, true} {
		for i := range len(list) * len(list) * len(list) * len(list) {
			p := fresh(t, 64, wide)
			for j := i; j > 0; j /= len(list) {
				p.accept(list[j%len(list)])
			}
			for _, n := range list {
				p.check(n)
			}
		}
	}
}

// TestWalks passes numbers without a plain order: most are in the window or near
// it, some are far above. Between them it asks for all that may be asked.
func TestWalks(t *testing.T) {
	seed := uint64(13)
	next := func(n uint64) uint64 {
		seed = seed*6364136223846793005 + 1442695040888963407
		return (seed >> 31) % n
	}
	for _, size := range sizes {
		s := uint64(size)
		for _, start := range []uint64{0, s - 1, lows - 500, lows - 1, 5*lows - 300, last - 5000, last - 10} {
			for _, wide := range []bool{false, true} {
				p := raised(t, size, wide, start)
				for range 1500 {
					switch next(40) {
					case 0:
						p.accept(p.m.top + next(3*s))
					case 1:
						p.accept(p.m.top - next(3*s))
					case 2:
						p.accept(edges[next(uint64(len(edges)))] / (1 + next(3)))
					default:
						p.accept(p.m.top + 4 - next(s+9))
					}
					p.infer(int(p.m.top-s+next(2*s)) & (lows - 1))
					p.infer(int(next(lows)))
				}
				p.around()
			}
		}
	}
}

// TestInferNarrow infers in windows that are not wide, where a low half is the
// number, whatever the top is.
func TestInferNarrow(t *testing.T) {
	for _, size := range sizes {
		for _, top := range tops(size) {
			p := raised(t, size, false, top)
			for _, n := range ends(size, top) {
				low := int(n % lows)
				if got, e := p.w.Infer(low); got != uint64(low) || e != api.OK {
					t.Errorf("P13.3: size %d, top %d: Infer(%d) = %d, %d", size, top, low, got, e)
				}
			}
		}
	}
}

// TestInferWide infers in wide windows with tops of all kinds, from low halves
// where something changes.
func TestInferWide(t *testing.T) {
	for _, size := range sizes {
		for _, top := range tops(size) {
			p := raised(t, size, true, top)
			for _, n := range ends(size, top) {
				p.infer(int(n % lows))
			}
			p.topped()
		}
	}
}

// TestInferWords infers from low halves at the edges of the chapter's rule, with
// the answers written out.
func TestInferWords(t *testing.T) {
	for _, x := range []struct {
		size int
		top  uint64
		low  int
		n    uint64
		e    api.Errno
	}{
		{64, 0, 0, 0, api.OK}, // l is less than size - 1, and h is 0
		{64, 0, 4294967232, 4294967232, api.OK},
		{64, 0, 4294967233, 0, api.ErrReplay},
		{64, 0, 4294967295, 0, api.ErrReplay},
		{64, 62, 4294967294, 4294967294, api.OK},
		{64, 62, 4294967295, 0, api.ErrReplay},
		{64, 63, 0, 0, api.OK}, // l is size - 1
		{64, 63, 4294967295, 4294967295, api.OK},
		{64, 64, 0, 4294967296, api.OK}, // l is size
		{64, 64, 1, 1, api.OK},
		{1024, 1022, 4294967295, 0, api.ErrReplay},
		{1024, 1023, 4294967295, 4294967295, api.OK},
		{1024, 1023, 0, 0, api.OK},
		{1024, 1024, 0, 4294967296, api.OK},
		{64, 4294967295, 4294967232, 4294967232, api.OK},
		{64, 4294967295, 4294967231, 8589934527, api.OK},
		{64, 4294967296, 4294967233, 4294967233, api.OK}, // h - 1
		{64, 4294967296, 4294967232, 8589934528, api.OK},
		{64, 4294967358, 4294967295, 4294967295, api.OK}, // l is 62
		{64, 4294967358, 4294967294, 8589934590, api.OK},
		{64, 4294967359, 4294967295, 8589934591, api.OK}, // l is 63
		{64, 4294967359, 0, 4294967296, api.OK},
		{64, 4294967360, 0, 8589934592, api.OK}, // l is 64
		{64, 18446744073709551615, 4294967232, 18446744073709551552, api.OK},
		{64, 18446744073709551615, 4294967231, 0, api.ErrReplay},
		{64, 18446744073709551615, 4294967295, 18446744073709551615, api.OK},
		{64, 18446744073709551615, 0, 0, api.ErrReplay},
		{64, 18446744069414584320, 0, 18446744069414584320, api.OK}, // l is 0, and h is 2^32 - 1
		{64, 18446744069414584320, 4294967233, 18446744069414584257, api.OK},
		{64, 18446744069414584320, 4294967232, 18446744073709551552, api.OK},
		{64, 18446744069414584384, 0, 0, api.ErrReplay},
		{64, 18446744069414584384, 1, 18446744069414584321, api.OK},
	} {
		w := made(t, x.size, true)
		w.Accept(x.top)
		if n, e := w.Infer(x.low); n != x.n || e != x.e {
			t.Errorf("P13.3: size %d, top %d: Infer(%d) = %d, %d, not %d, %d", x.size, x.top, x.low, n, e, x.n, x.e)
		}
	}
}

// TestInferRefuses passes what is no low half.
func TestInferRefuses(t *testing.T) {
	for _, wide := range []bool{false, true} {
		for _, top := range []uint64{0, 1, 63, 64, lows - 1, lows, last - lows, last} {
			p := raised(t, 64, wide, top)
			for _, low := range []int{-1, -2, -4294967295, -4294967296, math.MinInt32, math.MinInt, 4294967296, 4294967297, 8589934592, math.MaxInt} {
				if n, e := p.w.Infer(low); n != 0 || e != api.ErrArg {
					t.Errorf("P13.3: wide %t, top %d: Infer(%d) = %d, %d, not 0, %d", wide, p.m.top, low, n, e, api.ErrArg)
				}
			}
			p.infer(0)
			p.infer(4294967295)
		}
	}
}

// TestInferred holds the property that a number near the top is inferred from its
// low half: all numbers near the ends of what is near, and some between.
func TestInferred(t *testing.T) {
	for _, size := range sizes {
		s := int64(size)
		for _, top := range tops(size) {
			p := raised(t, size, true, top)
			steps := []int64{lows / 4, lows / 2, lows/2 + 12345, lows - 2*s}
			for i := range 2*s + 9 {
				steps = append(steps, 1-s+i)
			}
			for i := range int64(70) {
				steps = append(steps, lows-s-1-i)
			}
			for _, step := range steps {
				near := new(big.Int).Add(whole(top), big.NewInt(step))
				if !near.IsUint64() { // no number of 64 bits
					continue
				}
				want := near.Uint64()
				if n, e := p.w.Infer(int(want % lows)); n != want || e != api.OK {
					t.Errorf("P13.4: size %d, top %d: %d is inferred as %d, %d", size, top, want, n, e)
				}
			}
		}
	}
}

// TestOnce passes the same numbers many times in several orders, and counts how
// often each is accepted.
func TestOnce(t *testing.T) {
	for _, size := range []int{64, 65, 1023, 1024} {
		for _, base := range []uint64{0, lows - 2000, last - 6000} {
			w, count := made(t, size, true), map[uint64]int{}
			for _, stride := range []uint64{1, 7, 61, 1021, 2999} {
				for i := range uint64(3000) {
					n := base + i*stride%3000
					if w.Accept(n) == api.OK {
						count[n]++
					}
				}
			}
			for n, c := range count {
				if c > 1 {
					t.Errorf("P13.4: size %d: %d was accepted %d times", size, n, c)
				}
			}
			if len(count) < size || count[0] > 0 {
				t.Errorf("P13.2: size %d: %d numbers were accepted, 0 %d times", size, len(count), count[0])
			}
		}
	}
}

// TestRefusedChangesNothing passes numbers and low halves that are refused, and
// asks for all that the window knew before.
func TestRefusedChangesNothing(t *testing.T) {
	for _, size := range []int{64, 1024} {
		for _, wide := range []bool{false, true} {
			for _, top := range []uint64{3, uint64(size), 5000, lows - 1} {
				p := raised(t, size, wide, top)
				p.accept(top - 2)
				p.accept(top - uint64(size) + 1)
				for _, n := range []uint64{0, top, top - 2, top - uint64(size) + 1, top - uint64(size), lows, lows + top + 1, last} {
					if p.m.check(n) == api.OK { // it is not refused here
						continue
					}
					p.accept(n)
					p.around()
				}
				for _, low := range []int{-1, lows, math.MinInt, math.MaxInt} {
					p.infer(low)
					p.around()
				}
			}
		}
	}
}

// TestAsking asks a window for much, which must not change it.
func TestAsking(t *testing.T) {
	p := raised(t, 64, true, 1000)
	p.accept(990)
	for range 2 {
		for _, n := range append(ends(64, 1000), edges...) {
			p.check(n)
			p.infer(int(n % lows))
			p.topped()
		}
	}
	p.around()
}

// TestApart takes turns between windows: what one has accepted tells the others
// nothing, whether they are made the same way or not.
func TestApart(t *testing.T) {
	list := []*pair{fresh(t, 64, true), fresh(t, 64, true), fresh(t, 64, false), fresh(t, 65, true), fresh(t, 1024, true)}
	for i := range uint64(400) {
		for j, p := range list {
			p.accept(i*uint64(j+1) + uint64(j))
		}
		list[i%5].accept(1 << (i % 32))
	}
	for _, p := range list {
		p.around()
	}
	before, after := list[0], fresh(t, 64, true)
	after.around()
	after.accept(before.m.top)
	before.accept(before.m.top)
	before.around()
}
