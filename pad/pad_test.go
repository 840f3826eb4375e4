package pad_test

import (
	"bytes"
	"encoding/hex"
	"math"
	"slices"
	"strings"
	"testing"

	"redoubt/api"
	"redoubt/pad"
)

// bin is the bytes that a hexadecimal text tells; blanks do not count.
func bin(t *testing.T, text string) []byte {
	t.Helper()
	b, err := hex.DecodeString(strings.ReplaceAll(text, " ", ""))
	if err != nil {
		t.Fatal(err)
	}
	return b
}

// some is n bytes without a plain order; none at all if n is negative.
func some(n int, seed uint32) []byte {
	if n < 0 {
		return nil
	}
	b := make([]byte, n)
	for i := range b {
		seed = seed*1664525 + 1013904223
		b[i] = byte(seed >> 24)
	}
	return b
}

// count is the bytes 1, 2 and so on to n.
func count(n int) []byte {
	b := make([]byte, n)
	for i := range b {
		b[i] = byte(i + 1)
	}
	return b
}

// trailed is data with padding of n bytes.
func trailed(data []byte, n int, next int) []byte {
	return slices.Concat(data, count(n), []byte{byte(n), byte(next)})
}

// least is data with the padding that it needs, found by trying.
func least(data []byte, next int) []byte {
	n := 0
	for (len(data)+n+2)%4 != 0 {
		n++
	}
	return trailed(data, n, next)
}

// short is a text of some bytes, cut if they are many.
func short(b []byte) string {
	if len(b) > 40 {
		return hex.EncodeToString(b[:10]) + ".." + hex.EncodeToString(b[len(b)-20:])
	}
	return hex.EncodeToString(b)
}

// sealed fails unless Seal answers bytes, and Length how many.
func sealed(t *testing.T, want []byte, data []byte, next int) {
	t.Helper()
	if b, e := pad.Seal(data, next); !bytes.Equal(b, want) || e != api.OK {
		t.Errorf("P12.1: Seal of %d bytes and %d = %s, %d, not %s", len(data), next, short(b), e, short(want))
	}
	if n := pad.Length(len(data)); n != len(want) {
		t.Errorf("P12.1: Length(%d) = %d, not %d", len(data), n, len(want))
	}
}

// unsealed fails unless Seal refuses with an error.
func unsealed(t *testing.T, want api.Errno, data []byte, next int) {
	t.Helper()
	if b, e := pad.Seal(data, next); len(b) != 0 || e != want {
		t.Errorf("P12.1: Seal of %d bytes and %d = %s, %d, not %d", len(data), next, short(b), e, want)
	}
}

// opened fails unless Open answers data and what comes next.
func opened(t *testing.T, promise string, data []byte, next int, b []byte) {
	t.Helper()
	if d, n, e := pad.Open(b); !bytes.Equal(d, data) || n != next || e != api.OK {
		t.Errorf("%s: Open(%s) = %s, %d, %d, not %s, %d", promise, short(b), short(d), n, e, short(data), next)
	}
}

// refused fails unless Open refuses with an error.
func refused(t *testing.T, want api.Errno, b []byte) {
	t.Helper()
	if d, n, e := pad.Open(b); len(d) != 0 || n != 0 || e != want {
		t.Errorf("P12.2: Open(%s) = %s, %d, %d, not %d", short(b), short(d), n, e, want)
	}
}

// nexts are right ones, the least and the greatest among them.
var nexts = []int{0, 1, 2, 3, 4, 6, 17, 41, 58, 59, 127, 128, 254, 255}

// TestExamples holds the calls against the chapter's examples.
func TestExamples(t *testing.T) {
	sealed(t, bin(t, "61 62 63 01 02 03 03 06"), []byte("abc"), 6)
	opened(t, "P12.2", []byte("abc"), 6, bin(t, "61 62 63 01 02 03 03 06"))
	sealed(t, bin(t, "61 62 00 06"), []byte("ab"), 6)
	refused(t, api.ErrPad, bin(t, "01 03 02 06"))
}

// TestSealShort seals data of few bytes, and none at all, beside every right next.
func TestSealShort(t *testing.T) {
	for n, tail := range map[int]string{
		-1: "010202", 0: "010202", 1: "0101", 2: "00", 3: "01020303", 4: "010202",
		5: "0101", 6: "00", 7: "01020303", 8: "010202", 9: "0101",
	} {
		for next := range 256 {
			data := some(n, uint32(next))
			sealed(t, slices.Concat(data, bin(t, tail), []byte{byte(next)}), data, next)
		}
	}
}

// TestSealLengths seals data of all lengths up to some hundreds, and of the
// greatest ones.
func TestSealLengths(t *testing.T) {
	long := some(65535, 3)
	list := []int{1000, 4095, 4096, 32767, 32768, 65532, 65533, 65534, 65535}
	for n := range 600 {
		list = append(list, n)
	}
	for _, n := range list {
		for _, next := range nexts {
			sealed(t, least(long[:n], next), long[:n], next)
		}
	}
}

// TestSealRefuses passes too much data and wrong nexts, alone and together.
func TestSealRefuses(t *testing.T) {
	wrong := []int{-1, -2, -255, -256, math.MinInt32, math.MinInt, 256, 257, 511, 512, 65536, math.MaxInt32, math.MaxInt}
	for _, next := range wrong {
		for n := -1; n < 10; n++ {
			unsealed(t, api.ErrArg, some(n, 4), next)
		}
		for n := 65532; n < 65541; n++ {
			unsealed(t, api.ErrArg, some(n, 4), next)
		}
		unsealed(t, api.ErrArg, some(1<<20, 4), next)
	}
	for _, next := range nexts {
		for n := 65536; n < 65545; n++ {
			unsealed(t, api.ErrLong, some(n, 4), next)
		}
		unsealed(t, api.ErrLong, some(1<<20, 4), next)
	}
}

// TestLength asks for numbers on both sides of 0 and for great ones, those that
// are too great for Seal among them.
func TestLength(t *testing.T) {
	for n, want := range []int{4, 4, 4, 8, 8, 8, 8, 12, 12, 12} {
		if m := pad.Length(n); m != want {
			t.Errorf("P12.1: Length(%d) = %d, not %d", n, m, want)
		}
	}
	for _, n := range []int{-1, -2, -3, -4, -5, -6, -65535, math.MinInt32, math.MinInt + 1, math.MinInt} {
		if m := pad.Length(n); m != 0 {
			t.Errorf("P12.1: Length(%d) = %d, not 0", n, m)
		}
	}
	list := []int{1 << 20, 1<<30 - 1, 1 << 30, 1<<31 - 8, 1<<31 - 7, 1<<31 - 6}
	for n := range 70000 {
		list = append(list, n)
	}
	for _, n := range list {
		if m := pad.Length(n); m%4 != 0 || m < n+2 || m > n+5 {
			t.Errorf("P12.1: Length(%d) = %d", n, m)
		}
	}
}

// TestOpenShort passes fewer than two bytes, and two of each kind.
func TestOpenShort(t *testing.T) {
	refused(t, api.ErrMore, nil)
	refused(t, api.ErrMore, []byte{})
	for x := range 256 {
		refused(t, api.ErrMore, []byte{byte(x)})
		opened(t, "P12.2", nil, x, []byte{0, byte(x)})
		if x > 0 {
			refused(t, api.ErrPad, []byte{byte(x), 6})
		}
	}
}

// TestOpenEvery opens padding of every length behind data of some lengths,
// whether the whole is a multiple of four or not.
func TestOpenEvery(t *testing.T) {
	for n := range 256 {
		for _, size := range []int{0, 1, 2, 3, 4, 5, 20, 255, 256} {
			data := some(size, uint32(n))
			for _, next := range nexts {
				opened(t, "P12.2", data, next, trailed(data, n, next))
			}
		}
	}
	long := some(65535, 5)
	for _, n := range []int{0, 1, 2, 3, 4, 128, 255} {
		opened(t, "P12.2", long, 255, trailed(long, n, 255))
	}
	longer := some(1<<17, 6)
	opened(t, "P12.2", longer, 4, trailed(longer, 2, 4))
}

// TestOpenCutPadding passes lengths of padding as great as what stands before
// them, one greater, and far greater.
func TestOpenCutPadding(t *testing.T) {
	for n := range 256 {
		opened(t, "P12.2", nil, 6, trailed(nil, n, 6))
		for more := n + 1; more < 256; more++ {
			refused(t, api.ErrPad, append(count(n), byte(more), 6))
			refused(t, api.ErrPad, append(count(more)[more-n:], byte(more), 6))
		}
	}
}

// TestOpenWrongPadding alters the bytes of padding, one at a time.
func TestOpenWrongPadding(t *testing.T) {
	for _, n := range []int{1, 2, 3, 4, 5, 7, 8, 16, 100, 254, 255} {
		for _, size := range []int{0, 1, 2, 3, 8} {
			b := trailed(some(size, uint32(n)), n, 6)
			for i := size; i < size+n; i++ {
				kept := b[i]
				for _, x := range []byte{1, 2, 3, 4, 0x80, 0xff, kept} {
					b[i] = kept ^ x
					refused(t, api.ErrPad, b)
				}
				b[i] = kept
			}
			opened(t, "P12.2", b[:size], 6, b)
		}
	}
}

// TestOpenWrongValues alters each byte of a short whole to every value: data and
// next may be any, padding and its length not.
func TestOpenWrongValues(t *testing.T) {
	for n := 1; n < 8; n++ {
		for size := range 5 {
			b := trailed(bytes.Repeat([]byte{0xee}, size), n, 6)
			for i := range b {
				kept := b[i]
				for x := range 256 {
					b[i] = byte(x)
					switch {
					case i < size || i == len(b)-1 || b[i] == kept:
						opened(t, "P12.2", b[:size], int(b[len(b)-1]), b)
					case i == len(b)-2 && x == 0:
						opened(t, "P12.2", b[:len(b)-2], 6, b)
					default:
						refused(t, api.ErrPad, b)
					}
				}
				b[i] = kept
			}
		}
	}
}

// TestOpenWrongWhole passes padding that is wrong at all places: zeros, one byte
// repeated, counted from 0, from 2 or downwards.
func TestOpenWrongWhole(t *testing.T) {
	for n := 1; n < 256; n++ {
		up, down := count(n), count(n)
		for i := range up {
			up[i]++
		}
		slices.Reverse(down)
		from0 := append([]byte{0}, count(n-1)...)
		same := bytes.Repeat([]byte{byte(n)}, n)
		for _, p := range [][]byte{make([]byte, n), up, down, from0, same} {
			if bytes.Equal(p, count(n)) {
				continue
			}
			refused(t, api.ErrPad, slices.Concat(p, []byte{byte(n), 6}))
			refused(t, api.ErrPad, slices.Concat([]byte("data"), p, []byte{byte(n), 6}))
		}
	}
}

// answer is what Open answers by the chapter's words.
func answer(b []byte) ([]byte, int, api.Errno) {
	if len(b) < 2 {
		return nil, 0, api.ErrMore
	}
	n := int(b[len(b)-2])
	if len(b)-2 < n || !bytes.HasSuffix(b[:len(b)-2], count(n)) {
		return nil, 0, api.ErrPad
	}
	return b[:len(b)-2-n], int(b[len(b)-1]), api.OK
}

// TestOpenAll passes all texts of up to seven small bytes.
func TestOpenAll(t *testing.T) {
	texts := [][]byte{{}}
	for size := 0; size < 7; size++ {
		var longer [][]byte
		for _, b := range texts {
			for x := range byte(5) {
				longer = append(longer, append(slices.Clone(b), x))
			}
		}
		for _, b := range longer {
			if data, next, e := answer(b); e != api.OK {
				refused(t, e, b)
			} else {
				opened(t, "P12.2", data, next, b)
			}
		}
		texts = longer
	}
}

// TestOpenOfSeal opens what is sealed, data that looks like a trailer too.
func TestOpenOfSeal(t *testing.T) {
	long := some(65535, 7)
	list := [][]byte{nil, {}, {0}, {1}, {1, 1}, {1, 2, 2, 6}, {1, 2, 3}, {0, 0, 0, 0}, {255, 255}, long, long[:65534], long[:65533], long[:65532]}
	for n := range 300 {
		list = append(list, long[:n], count(min(n, 255)))
	}
	for _, data := range list {
		for _, next := range nexts {
			b, e := pad.Seal(data, next)
			if e != api.OK {
				t.Fatalf("P12.3: Seal of %d bytes and %d = %d", len(data), next, e)
			}
			opened(t, "P12.3", data, next, b)
			again, e := pad.Seal(b[:len(b)/2], next)
			if e != api.OK {
				t.Fatalf("P12.3: Seal of %d bytes and %d = %d", len(b)/2, next, e)
			}
			opened(t, "P12.3", b[:len(b)/2], next, again)
		}
	}
}

// TestMemory holds arguments, and what lies behind them, against what they were,
// and clears them to see that no result shares memory with them.
func TestMemory(t *testing.T) {
	for n := range 12 {
		room := slices.Concat(trailed(some(n, 8), 3, 6), some(30, 9))
		kept := slices.Clone(room)
		b, _ := pad.Seal(room[:n], 6)
		pad.Seal(room[:n], 256)
		d, _, _ := pad.Open(room[:n+5])
		pad.Open(room[:1])
		pad.Open(append(room[:n:n], 9, 6))
		if !bytes.Equal(room, kept) {
			t.Fatalf("P12.1, P12.2: an argument of %d bytes, or what lies behind it, is altered", n)
		}
		clear(room)
		if !bytes.Equal(b, least(kept[:n], 6)) || !bytes.Equal(d, kept[:n]) {
			t.Errorf("P12.1, P12.2: a result of %d bytes shares memory with an argument", n)
		}
		clear(b[:cap(b)])
		if !bytes.Equal(d, kept[:n]) {
			t.Errorf("P12.1, P12.2: two results of %d bytes share memory", n)
		}
		for i := range d[:cap(d)] {
			d[:cap(d)][i] = 0xff
		}
		if !bytes.Equal(room, make([]byte, len(room))) {
			t.Errorf("P12.2: a result of %d bytes has room in an argument", n)
		}
	}
}

// TestResultsAreNew calls twice and alters the first results.
func TestResultsAreNew(t *testing.T) {
	for n := range 12 {
		data := some(n, 10)
		one, _ := pad.Seal(data, 6)
		want := slices.Clone(one)
		first, _, _ := pad.Open(one)
		clear(first[:cap(first)])
		opened(t, "P12.2", data, 6, want)
		clear(one[:cap(one)])
		sealed(t, want, data, 6)
	}
}
