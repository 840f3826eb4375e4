package inet_test

import (
	"bytes"
	"math"
	"strings"
	"testing"

	"redoubt/api"
	"redoubt/inet"
)

// edges are words at the ends and in the middle of their range.
var edges = []int{0, 1, 2, 255, 256, 32767, 32768, 43981, 65279, 65280, 65533, 65534, 65535}

// congruent are ints outside the words; each has its place in a word's low 16 bits.
var congruent = []struct{ n, word int }{
	{65536, 0},
	{65537, 1},
	{131071, 65535},
	{131072, 0},
	{-1, 65535},
	{-2, 65534},
	{-65535, 1},
	{-65536, 0},
	{-65537, 65535},
	{1<<31 - 1, 65535},
	{1 << 32, 0},
	{1<<40 + 7, 7},
	{math.MaxInt64, 65535},
	{math.MinInt64, 0},
	{math.MinInt64 + 9, 9},
}

// folded is the one's complement sum told in another way than by steps: a
// total that is not 0 stands for the number from 1 to 65535 with its remainder.
func folded(total int) int {
	if total == 0 {
		return 0
	}
	return (total-1)%65535 + 1
}

// total adds the big-endian words of b as plain numbers.
func total(b []byte) int {
	n := 0
	for i, x := range b {
		if i%2 == 0 {
			n += int(x) * 256
		} else {
			n += int(x)
		}
	}
	return n
}

// samples are byte strings of many lengths, odd and even, the same in each run.
func samples() [][]byte {
	out := [][]byte{nil, {}, {0}, {0, 0}, {0, 0, 0}, {255}, {255, 255}, {255, 255, 255}, {255, 255, 0, 1}}
	seed := uint32(1)
	for n := 1; n < 80; n++ {
		b := make([]byte, n)
		for i := range b {
			seed = seed*1664525 + 1013904223
			b[i] = byte(seed >> 24)
		}
		out = append(out, b)
	}
	return append(out, make([]byte, 1000), bytes.Repeat([]byte{255}, 65535), bytes.Repeat([]byte{1, 2, 3}, 30001))
}

func TestAdd(t *testing.T) {
	for _, x := range []struct{ a, b, want int }{
		{65535, 1, 1}, {1, 2, 3}, {65535, 0, 65535}, {0, 65535, 65535}, {0, 0, 0},
		{65535, 65535, 65535}, {65534, 1, 65535}, {65534, 2, 1}, {32768, 32767, 65535}, {32768, 32768, 1},
	} {
		if n := inet.Add(x.a, x.b); n != x.want {
			t.Errorf("P1.1: Add(%d, %d) = %d, not %d", x.a, x.b, n, x.want)
		}
	}
	for _, a := range edges {
		for b := 0; b < 65536; b++ {
			if n := inet.Add(a, b); n != folded(a+b) || n != inet.Add(b, a) {
				t.Fatalf("P1.1: Add(%d, %d) = %d", a, b, n)
			}
		}
	}
}

func TestAddOutsideWords(t *testing.T) {
	for _, x := range congruent {
		for _, b := range edges {
			want := inet.Add(x.word, b)
			if n := inet.Add(x.n, b); n != want {
				t.Errorf("P1.1: Add(%d, %d) = %d, not %d", x.n, b, n, want)
			}
			if n := inet.Add(b, x.n); n != want {
				t.Errorf("P1.1: Add(%d, %d) = %d, not %d", b, x.n, n, want)
			}
		}
		for _, y := range congruent {
			if n, want := inet.Add(x.n, y.n), inet.Add(x.word, y.word); n != want {
				t.Errorf("P1.1: Add(%d, %d) = %d, not %d", x.n, y.n, n, want)
			}
		}
	}
}

func TestSumAndCheck(t *testing.T) {
	for _, x := range []struct {
		b   string
		sum int
	}{
		{"", 0},
		{"\x00", 0},
		{"\x01", 0x0100},
		{"\xff", 0xff00},
		{"\x00\x01", 1},
		{"\x01\x00", 0x0100},
		{"\xff\xff", 0xffff},
		{"\xff\xff\x00\x01", 1},
		{"\xff\xff\x00\x00", 0xffff},
		{"\xff\xff\x01", 0x0100},
		{"\xff\xff\xff", 0xff00},
		{"\x80\x00\x80\x00", 1},
		{"\x00\x01\xf2\x03\xf4\xf5\xf6\xf7", 0xddf2},
		{"\x00\x01\xf2\x03\xf4\xf5\xf6", 0xdcfb},
		{"\x45\x00\x00\x14\x00\x00\x00\x00\x40\x11\x66\xd7\x0a\x00\x00\x01\x0a\x00\x00\x02", 0xffff},
	} {
		if n := inet.Sum([]byte(x.b)); n != x.sum {
			t.Errorf("P1.1: Sum(%x) = %x, not %x", x.b, n, x.sum)
		}
		if n := inet.Check([]byte(x.b)); n != 65535-x.sum {
			t.Errorf("P1.1: Check(%x) = %x, not %x", x.b, n, 65535-x.sum)
		}
	}
	for _, b := range samples() {
		if n, want := inet.Sum(b), folded(total(b)); n != want {
			t.Errorf("P1.1: Sum of %d bytes = %x, not %x", len(b), n, want)
		}
		if n, want := inet.Check(b), 65535-folded(total(b)); n != want {
			t.Errorf("P1.1: Check of %d bytes = %x, not %x", len(b), n, want)
		}
	}
}

// R2: neither the bytes that are passed nor what lies behind them change or count.
func TestSumLeavesBytes(t *testing.T) {
	whole := []byte{1, 2, 3, 4, 5, 6}
	part := whole[:3]
	if n := inet.Sum(part); n != 0x0402 {
		t.Errorf("P1.1: Sum(010203) = %x", n)
	}
	if n := inet.Check(part); n != 65535-0x0402 {
		t.Errorf("P1.1: Check(010203) = %x", n)
	}
	if !bytes.Equal(whole, []byte{1, 2, 3, 4, 5, 6}) {
		t.Errorf("R2: the bytes became %x", whole)
	}
}

func TestTurn(t *testing.T) {
	for _, x := range []struct{ check, was, now, want int }{
		{0xdd2f, 0x5555, 0x3285, 0x0000}, // RFC 1624, section 4
		{0, 0, 0, 0},
		{65535, 0, 0, 0},
		{65535, 0, 1, 65534},
		{65534, 1, 0, 0},
		{65534, 1, 2, 65533},
		{0, 65535, 65535, 0},
		{0, 65535, 1, 65534},
		{65535, 65535, 65535, 0},
		{65535, 65535, 0, 65535},
	} {
		if n := inet.Turn(x.check, x.was, x.now); n != x.want {
			t.Errorf("P1.2: Turn(%d, %d, %d) = %d, not %d", x.check, x.was, x.now, n, x.want)
		}
	}
	for _, check := range edges {
		for _, was := range edges {
			for _, now := range edges {
				want := 65535 - folded(65535-check+65535-was+now)
				if n := inet.Turn(check, was, now); n != want {
					t.Errorf("P1.2: Turn(%d, %d, %d) = %d, not %d", check, was, now, n, want)
				}
			}
		}
	}
}

func TestTurnOutsideWords(t *testing.T) {
	for _, x := range congruent {
		for _, y := range edges {
			for _, z := range edges {
				if n, want := inet.Turn(x.n, y, z), inet.Turn(x.word, y, z); n != want {
					t.Errorf("P1.2: Turn(%d, %d, %d) = %d, not %d", x.n, y, z, n, want)
				}
				if n, want := inet.Turn(y, x.n, z), inet.Turn(y, x.word, z); n != want {
					t.Errorf("P1.2: Turn(%d, %d, %d) = %d, not %d", y, x.n, z, n, want)
				}
				if n, want := inet.Turn(y, z, x.n), inet.Turn(y, z, x.word); n != want {
					t.Errorf("P1.2: Turn(%d, %d, %d) = %d, not %d", y, z, x.n, n, want)
				}
			}
		}
	}
}

const (
	here4  = "\x0a\x00\x00\x01"
	there4 = "\xc0\xa8\xfe\x63"
	here6  = "\x20\x01\x0d\xb8\x00\x00\x00\x00\x00\x01\x00\x00\x00\x00\x00\x01"
	there6 = "\xfe\x80\x12\x34\x56\x78\x9a\xbc\xde\xf0\x01\x02\x03\x04\x05\x06"
)

func TestPseudo(t *testing.T) {
	zero4, ones4 := strings.Repeat("\x00", 4), strings.Repeat("\xff", 4)
	zero6, ones6 := strings.Repeat("\x00", 16), strings.Repeat("\xff", 16)
	for _, x := range []struct {
		src, dst string
		proto, n int
		header   string
	}{
		{here4, there4, 17, 8, here4 + there4 + "\x00\x11\x00\x08"},
		{there4, here4, 6, 20, there4 + here4 + "\x00\x06\x00\x14"},
		{here4, there4, 0, 0, here4 + there4},
		{here4, there4, 255, 65535, here4 + there4 + "\x00\xff\xff\xff"},
		{zero4, zero4, 0, 0, ""},
		{zero4, zero4, 0, 0x1234, "\x12\x34"},
		{zero4, zero4, 0xab, 0, "\x00\xab"},
		{ones4, ones4, 0, 0, "\xff\xff"},
		{here6, there6, 58, 8, here6 + there6 + "\x00\x00\x00\x08\x00\x00\x00\x3a"},
		{there6, here6, 6, 65536, there6 + here6 + "\x00\x01\x00\x00\x00\x00\x00\x06"},
		{here6, there6, 0, 0, here6 + there6},
		{here6, there6, 255, 4294967295, here6 + there6 + "\xff\xff\xff\xff\x00\x00\x00\xff"},
		{zero6, zero6, 0, 0, ""},
		{zero6, zero6, 0, 0x12345678, "\x12\x34\x56\x78"},
		{zero6, zero6, 0xab, 0, "\x00\xab"},
		{ones6, ones6, 255, 65535, "\x00\xff\xff\xff"},
	} {
		n, e := inet.Pseudo(x.src, x.dst, x.proto, x.n)
		if want := folded(total([]byte(x.header))); n != want || e != api.OK {
			t.Errorf("P1.2: Pseudo(%x, %x, %d, %d) = %x, %d, not %x", x.src, x.dst, x.proto, x.n, n, e, want)
		}
	}
}

func TestPseudoRefuses(t *testing.T) {
	for _, x := range []struct{ proto, n int }{
		{-1, 0}, {256, 0}, {math.MinInt64, 0}, {math.MaxInt64, 0}, {256 + 17, 8},
		{17, -1}, {17, math.MinInt64}, {17, 4294967296}, {17, math.MaxInt64}, {-1, -1},
	} {
		if n, e := inet.Pseudo(here4, there4, x.proto, x.n); n != 0 || e != api.ErrArg {
			t.Errorf("P1.2: Pseudo of 4-byte addresses, %d, %d: %d, %d", x.proto, x.n, n, e)
		}
		if n, e := inet.Pseudo(here6, there6, x.proto, x.n); n != 0 || e != api.ErrArg {
			t.Errorf("P1.2: Pseudo of 16-byte addresses, %d, %d: %d, %d", x.proto, x.n, n, e)
		}
	}
	for _, n := range []int{65536, 65537, 131072, 4294967295} {
		if sum, e := inet.Pseudo(here4, there4, 17, n); sum != 0 || e != api.ErrArg {
			t.Errorf("P1.2: Pseudo of 4-byte addresses, length %d: %d, %d", n, sum, e)
		}
		if _, e := inet.Pseudo(here6, there6, 17, n); e != api.OK {
			t.Errorf("P1.2: Pseudo of 16-byte addresses, length %d: %d", n, e)
		}
	}
}

func TestPseudoOfWrongAddresses(t *testing.T) {
	long := strings.Repeat("\x07", 40)
	for i := 0; i <= len(long); i++ {
		for j := 0; j <= len(long); j++ {
			want := api.ErrArg
			if i == j && (i == 4 || i == 16) {
				want = api.OK
			}
			n, e := inet.Pseudo(long[:i], long[:j], 17, 8)
			if e != want || (e != api.OK && n != 0) {
				t.Errorf("P1.2: Pseudo of %d and %d bytes: %d, %d", i, j, n, e)
			}
		}
	}
}

func TestSumOfParts(t *testing.T) {
	all := samples()
	for _, a := range all {
		if len(a)%2 != 0 {
			continue
		}
		for _, b := range all {
			whole := append(append([]byte{}, a...), b...)
			if n, want := inet.Sum(whole), inet.Add(inet.Sum(a), inet.Sum(b)); n != want {
				t.Errorf("P1.3: Sum of %d and %d bytes = %x, not %x", len(a), len(b), n, want)
			}
		}
	}
}

// with is a copy of b in which the word at a place is another one.
func with(b []byte, at int, word int) []byte {
	out := append([]byte{}, b...)
	out[at], out[at+1] = byte(word>>8), byte(word)
	return out
}

func TestCheckMakesWhole(t *testing.T) {
	for _, b := range samples() {
		for at := 0; at+1 < min(len(b), 200); at += 2 {
			open := with(b, at, 0)
			closed := with(open, at, inet.Check(open))
			if n := inet.Sum(closed); n != 65535 {
				t.Errorf("P1.3: %d bytes with their Check at %d: Sum %x", len(b), at, n)
			}
		}
	}
}

func TestTurnFollowsCheck(t *testing.T) {
	for _, b := range samples() {
		for at := 0; at+1 < min(len(b), 40); at += 2 {
			was := int(b[at])<<8 + int(b[at+1])
			for _, now := range edges {
				next := with(b, at, now)
				if total(next) == 0 {
					continue
				}
				if n, want := inet.Turn(inet.Check(b), was, now), inet.Check(next); n != want {
					t.Errorf("P1.3: %d bytes, word %d at %d turned to %d: %x, not %x", len(b), was, at, now, n, want)
				}
			}
		}
	}
}
