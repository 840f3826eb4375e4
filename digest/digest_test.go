package digest_test

import (
	"bytes"
	"crypto/sha256"
	"encoding"
	"encoding/binary"
	"encoding/hex"
	"math"
	"math/big"
	"slices"
	"strings"
	"testing"

	"redoubt/api"
	"redoubt/digest"
)

const most = 4294967295

// bin is the bytes that a hexadecimal text tells; blanks do not count.
func bin(t *testing.T, text string) []byte {
	t.Helper()
	b, err := hex.DecodeString(strings.ReplaceAll(text, " ", ""))
	if err != nil {
		t.Fatal(err)
	}
	return b
}

// some is n bytes without a plain order; none at all if n is negative.
func some(n int, seed uint32) []byte {
	if n < 0 {
		return nil
	}
	b := make([]byte, n)
	for i := range b {
		seed = seed*1664525 + 1013904223
		b[i] = byte(seed >> 24)
	}
	return b
}

// numbers reads bytes as numbers of four bytes each.
func numbers(b []byte) []int {
	list := make([]int, 0, len(b)/4)
	for at := 0; at+4 <= len(b); at += 4 {
		list = append(list, int(binary.BigEndian.Uint32(b[at:])))
	}
	return list
}

// encoded writes numbers as four bytes each.
func encoded(list []int) []byte {
	b := make([]byte, 0, 4*len(list))
	for _, n := range list {
		b = binary.BigEndian.AppendUint32(b, uint32(n))
	}
	return b
}

// state is n numbers without a plain order; none at all if n is negative.
func state(n int, seed uint32) []int {
	if n < 0 {
		return nil
	}
	return numbers(some(4*n, seed))
}

// first is the state before the first block, as the chapter makes it.
func first() []int {
	var list []int
	for i := 64; i < 72; i++ {
		list = append(list, digest.Constant(i))
	}
	return list
}

// root is the first 32 bits of the fractional part of the k-th root of n: the
// greatest whole number whose k-th power is not above n times 2^(32 k).
func root(n int, k int) int {
	limit := new(big.Int).Lsh(big.NewInt(int64(n)), uint(32*k))
	r := new(big.Int)
	for bit := 40; bit >= 0; bit-- {
		more := new(big.Int).SetBit(r, bit, 1)
		if new(big.Int).Exp(more, big.NewInt(int64(k)), nil).Cmp(limit) <= 0 {
			r = more
		}
	}
	return int(r.Uint64() & most)
}

// primes are the first n.
func primes(n int) []int {
	var list []int
	for p := 2; len(list) < n; p++ {
		if !slices.ContainsFunc(list, func(q int) bool { return p%q == 0 }) {
			list = append(list, p)
		}
	}
	return list
}

// turned rotates the 32 binary digits of x right by n, as a text.
func turned(x int, n int) int {
	digits := bitsOf(x)
	return ofBits(digits[32-n:] + digits[:32-n])
}

// moved shifts them, with zeros coming in.
func moved(x int, n int) int { return ofBits(strings.Repeat("0", n) + bitsOf(x)[:32-n]) }

// bitsOf tells the 32 binary digits of a number.
func bitsOf(x int) string {
	out := ""
	for range 32 {
		out = string(rune('0'+x%2)) + out
		x /= 2
	}
	return out
}

// ofBits is the number of some binary digits.
func ofBits(digits string) int {
	n := 0
	for _, d := range digits {
		n = 2*n + int(d-'0')
	}
	return n
}

// schedule is the message schedule by the chapter's words.
func schedule(block []byte) []int {
	w := numbers(block)
	for i := 16; i < 64; i++ {
		a, b := w[i-15], w[i-2]
		s0 := turned(a, 7) ^ turned(a, 18) ^ moved(a, 3)
		s1 := turned(b, 17) ^ turned(b, 19) ^ moved(b, 10)
		w = append(w, (w[i-16]+s0+w[i-7]+s1)%(most+1))
	}
	return w
}

// after is a state after a block, by Go's own digest, which takes any state.
func after(t *testing.T, before []int, block []byte) []int {
	t.Helper()
	h := sha256.New()
	kept := slices.Concat([]byte("sha\x03"), encoded(before), make([]byte, 64+8))
	if err := h.(encoding.BinaryUnmarshaler).UnmarshalBinary(kept); err != nil {
		t.Fatal(err)
	}
	h.Write(block)
	kept, err := h.(encoding.BinaryMarshaler).MarshalBinary()
	if err != nil {
		t.Fatal(err)
	}
	return numbers(kept[4:36])
}

// worded fails unless Words answers a schedule.
func worded(t *testing.T, block []byte, want []int) {
	t.Helper()
	if w, e := digest.Words(block); !slices.Equal(w, want) || e != api.OK {
		t.Fatalf("P10.1: Words(%x) = %x, %d, not %x", block, w, e, want)
	}
}

// rounded fails unless Round answers a state.
func rounded(t *testing.T, promise string, before []int, block []byte, want []int) {
	t.Helper()
	if s, e := digest.Round(before, block); !slices.Equal(s, want) || e != api.OK {
		t.Fatalf("%s: Round(%x, %x) = %x, %d, not %x", promise, before, block, s, e, want)
	}
}

// digested fails unless Of answers a digest.
func digested(t *testing.T, promise string, want []byte, parts ...[]byte) {
	t.Helper()
	if d := digest.Of(parts...); !bytes.Equal(d, want) {
		var lengths []int
		for _, b := range parts {
			lengths = append(lengths, len(b))
		}
		t.Fatalf("%s: Of parts of %d bytes = %x, not %x", promise, lengths, d, want)
	}
}

// whole is the digest of a message by Go's own.
func whole(message []byte) []byte {
	d := sha256.Sum256(message)
	return d[:]
}

// TestConstant works out the root of each prime.
func TestConstant(t *testing.T) {
	list := primes(64)
	for i := range 72 {
		want := 0
		if i < 64 {
			want = root(list[i], 3)
		} else {
			want = root(list[i-64], 2)
		}
		for range 2 {
			if c := digest.Constant(i); c != want {
				t.Errorf("P10.1: Constant(%d) = %x, not %x", i, c, want)
			}
		}
	}
}

// TestConstantExamples asks for those that the chapter tells, and for those
// beside them.
func TestConstantExamples(t *testing.T) {
	for i, want := range map[int]int{
		0: 0x428a2f98, 1: 0x71374491, 62: 0xbef9a3f7, 63: 0xc67178f2,
		64: 0x6a09e667, 65: 0xbb67ae85, 70: 0x1f83d9ab, 71: 0x5be0cd19,
	} {
		if c := digest.Constant(i); c != want {
			t.Errorf("P10.1: Constant(%d) = %x, not %x", i, c, want)
		}
	}
}

// TestNoConstant asks for numbers that have none: those around the table, and
// those that would be in it if bits of them were lost.
func TestNoConstant(t *testing.T) {
	list := []int{math.MinInt, math.MinInt + 1, math.MaxInt, math.MaxInt - 1}
	for n := 1; n <= 600; n++ {
		list = append(list, -n, 71+n)
	}
	for shift := 7; shift < 63; shift++ {
		for n := range 72 {
			list = append(list, 1<<shift+n, -1<<shift+n)
		}
	}
	for _, i := range list {
		if i < 0 || i > 71 {
			if c := digest.Constant(i); c != 0 {
				t.Errorf("P10.1: Constant(%d) = %x, not 0", i, c)
			}
		}
	}
}

// blocks are plain ones, each bit alone, set and cleared, and others.
func blocks() [][]byte {
	var list [][]byte
	for _, x := range []byte{0, 1, 0x55, 0x7f, 0x80, 0xaa, 0xff} {
		list = append(list, bytes.Repeat([]byte{x}, 64))
	}
	for i := range 512 {
		low, high := make([]byte, 64), bytes.Repeat([]byte{255}, 64)
		low[i/8] ^= 1 << (i % 8)
		high[i/8] ^= 1 << (i % 8)
		list = append(list, low, high)
	}
	for seed := range uint32(500) {
		list = append(list, some(64, seed))
	}
	return list
}

// TestWords holds schedules against the chapter's words.
func TestWords(t *testing.T) {
	for _, b := range blocks() {
		worded(t, b, schedule(b))
	}
}

// TestWordsPublished holds the schedule of the block of "abc" against what is
// published of it.
func TestWordsPublished(t *testing.T) {
	b := make([]byte, 64)
	copy(b, "abc\x80")
	b[63] = 24
	want := make([]int, 16, 24)
	want[0], want[15] = 0x61626380, 0x18
	want = append(want, 0x61626380, 0x000f0000, 0x7da86405, 0x600003c6, 0x3e9d7b78, 0x0183fc00, 0x12dcbfdb, 0xe2e2c38e)
	if w, e := digest.Words(b); len(w) != 64 || !slices.Equal(w[:24], want) || e != api.OK {
		t.Errorf("P10.1: Words(%x) = %x, %d", b, w, e)
	}
}

// TestWordsRefuses passes blocks of all lengths.
func TestWordsRefuses(t *testing.T) {
	for n := -1; n <= 320; n++ {
		b := some(n, 1)
		w, e := digest.Words(b)
		if n == 64 {
			worded(t, b, schedule(b))
		} else if len(w) != 0 || e != api.ErrArg {
			t.Errorf("P10.1: Words of %d bytes: %x, %d", n, w, e)
		}
	}
	for _, n := range []int{4096, 256 + 64, 65536, 65536 + 64} {
		if w, e := digest.Words(some(n, 1)); len(w) != 0 || e != api.ErrArg {
			t.Errorf("P10.1: Words of %d bytes: %x, %d", n, w, e)
		}
	}
}

// TestRound holds states against Go's own digest: after each block from the
// first state, and from others.
func TestRound(t *testing.T) {
	for seed, b := range blocks() {
		rounded(t, "P10.2", first(), b, after(t, first(), b))
		before := state(8, uint32(seed)+7)
		rounded(t, "P10.2", before, b, after(t, before, b))
	}
}

// TestRoundStates goes through each bit of a state, alone, set and cleared, and
// altered in another one.
func TestRoundStates(t *testing.T) {
	block := some(64, 21)
	for _, x := range []byte{0, 255} {
		plain := numbers(bytes.Repeat([]byte{x}, 32))
		rounded(t, "P10.2", plain, block, after(t, plain, block))
		rounded(t, "P10.2", plain, make([]byte, 64), after(t, plain, make([]byte, 64)))
	}
	for i := range 256 {
		for _, b := range [][]byte{make([]byte, 32), bytes.Repeat([]byte{255}, 32), some(32, 22), some(32, uint32(i))} {
			b[i/8] ^= 1 << (i % 8)
			rounded(t, "P10.2", numbers(b), block, after(t, numbers(b), block))
		}
	}
}

// steps is a state after a block, by the chapter's words, with Constant and
// Words as they answer.
func steps(t *testing.T, before []int, block []byte) []int {
	t.Helper()
	w, e := digest.Words(block)
	if len(w) != 64 || e != api.OK {
		t.Fatalf("P10.1: Words(%x) = %x, %d", block, w, e)
	}
	v := slices.Clone(before)
	for i := range 64 {
		a, e := v[0], v[4]
		choice, majority := 0, 0
		for bit := range 32 {
			chosen := v[6]
			if e>>bit&1 == 1 {
				chosen = v[5]
			}
			choice |= chosen >> bit & 1 << bit
			if v[0]>>bit&1+v[1]>>bit&1+v[2]>>bit&1 >= 2 {
				majority |= 1 << bit
			}
		}
		n := v[7] + (turned(e, 6) ^ turned(e, 11) ^ turned(e, 25)) + choice + digest.Constant(i) + w[i]
		u := (turned(a, 2) ^ turned(a, 13) ^ turned(a, 22)) + majority
		v = []int{(n + u) % (most + 1), v[0], v[1], v[2], (v[3] + n) % (most + 1), v[4], v[5], v[6]}
	}
	for i := range v {
		v[i] = (v[i] + before[i]) % (most + 1)
	}
	return v
}

// TestRoundIsOfWords holds states against the chapter's words.
func TestRoundIsOfWords(t *testing.T) {
	for seed := range uint32(40) {
		before, block := state(8, seed), some(64, 100+seed)
		rounded(t, "P10.2", before, block, steps(t, before, block))
	}
}

// TestRoundPublished holds the states of two published messages against what is
// published of them.
func TestRoundPublished(t *testing.T) {
	abc := make([]byte, 64)
	copy(abc, "abc\x80")
	abc[63] = 24
	rounded(t, "P10.2", first(), abc, numbers(bin(t, "ba7816bf 8f01cfea 414140de 5dae2223 b00361a3 96177a9c b410ff61 f20015ad")))
	one, two := make([]byte, 64), make([]byte, 64)
	copy(one, "abcdbcdecdefdefgefghfghighijhijkijkljklmklmnlmnomnopnopq\x80")
	two[62], two[63] = 1, 0xc0
	middle := numbers(bin(t, "85e655d6 417a1795 3363376a 624cde5c 76e09589 cac5f811 cc4b32c1 f20e533a"))
	rounded(t, "P10.2", first(), one, middle)
	rounded(t, "P10.2", middle, two, numbers(bin(t, "248d6a61 d20638b8 e5c02693 0c3e6039 a33ce459 64ff2167 f6ecedd4 19db06c1")))
}

// refused fails unless Round refuses.
func refused(t *testing.T, before []int, block []byte) {
	t.Helper()
	if s, e := digest.Round(before, block); len(s) != 0 || e != api.ErrArg {
		t.Errorf("P10.2: Round(%d, %d bytes) = %x, %d", before, len(block), s, e)
	}
}

// TestRoundLengths passes states and blocks of right and wrong lengths beside
// each other.
func TestRoundLengths(t *testing.T) {
	for n := -1; n <= 80; n++ {
		for _, size := range []int{-1, 0, 1, 8, 32, 63, 64, 65, 127, 128, 129, 256 + 64, 65536 + 64} {
			before, block := state(n, 1), some(size, 2)
			if n == 8 && size == 64 {
				rounded(t, "P10.2", before, block, after(t, before, block))
			} else {
				refused(t, before, block)
			}
		}
	}
	for size := -1; size <= 200; size++ {
		if size != 64 {
			refused(t, first(), some(size, 3))
		}
	}
}

// TestRoundNumbers puts numbers at each place of a state, beside blocks of right
// and wrong lengths.
func TestRoundNumbers(t *testing.T) {
	list := []int{
		math.MinInt, math.MinInt + 1, -1 << 40, -most - 2, -most - 1, -most, -1 << 31, -256, -2, -1,
		0, 1, 255, 1<<31 - 1, 1 << 31, most - 1, most,
		most + 1, most + 2, 1 << 33, 1<<40 + 5, math.MaxInt - 1, math.MaxInt,
	}
	for place := range 8 {
		for _, n := range list {
			before, block := state(8, 31), some(64, 32)
			before[place] = n
			if n >= 0 && n <= most {
				rounded(t, "P10.2", before, block, after(t, before, block))
			} else {
				refused(t, before, block)
			}
			refused(t, before, block[:63])
			refused(t, before, nil)
			refused(t, before[:7], block)
			refused(t, append(before, 5), block)
		}
	}
}

// TestRoundTwoNumbers puts a wrong number beside one that is at an end.
func TestRoundTwoNumbers(t *testing.T) {
	for one := range 8 {
		for two := range 8 {
			for _, x := range []int{0, most} {
				for _, y := range []int{-1, most + 1} {
					before := state(8, 33)
					before[one], before[two] = x, y
					refused(t, before, some(64, 34))
				}
			}
		}
	}
}

// TestOf goes through messages of many lengths in one part.
func TestOf(t *testing.T) {
	message := some(1<<16, 41)
	for n := range 700 {
		digested(t, "P10.3", whole(message[:n]), message[:n])
	}
	for shift := 10; shift <= 16; shift++ {
		for _, n := range []int{1<<shift - 9, 1<<shift - 8, 1<<shift - 1, 1 << shift} {
			digested(t, "P10.3", whole(message[:n]), message[:n])
		}
	}
}

// TestOfEdges goes through the lengths at which the padding takes another turn,
// with messages of one byte repeated.
func TestOfEdges(t *testing.T) {
	for _, n := range []int{0, 1, 54, 55, 56, 57, 62, 63, 64, 65, 118, 119, 120, 121, 127, 128, 129, 183, 184} {
		for _, x := range []byte{0, 1, 0x7f, 0x80, 0xff, 'a'} {
			message := bytes.Repeat([]byte{x}, n)
			digested(t, "P10.3", whole(message), message)
		}
	}
}

// TestOfNothing passes no parts, and parts without bytes.
func TestOfNothing(t *testing.T) {
	want := bin(t, "e3b0c44298fc1c149afbf4c8996fb92427ae41e4649b934ca495991b7852b855")
	digested(t, "P10.3", want)
	digested(t, "P10.3", want, [][]byte{}...)
	digested(t, "P10.3", want, nil)
	digested(t, "P10.3", want, []byte{})
	digested(t, "P10.3", want, nil, []byte{}, nil)
	digested(t, "P10.3", want, make([][]byte, 1000)...)
}

// TestOfPublished holds digests against the published ones.
func TestOfPublished(t *testing.T) {
	for message, want := range map[string]string{
		"":                             "e3b0c442 98fc1c14 9afbf4c8 996fb924 27ae41e4 649b934c a495991b 7852b855",
		"abc":                          "ba7816bf 8f01cfea 414140de 5dae2223 b00361a3 96177a9c b410ff61 f20015ad",
		"\xbd":                         "68325720 aabd7c82 f30f554b 313d0570 c95accbb 7dc4b5aa e11204c0 8ffe732b",
		"\xc9\x8c\x8e\x55":             "7abc22c0 ae5af26c e93dbb94 433a0e0b 2e119d01 4f8e7f65 bd56c61c cccd9504",
		strings.Repeat("\x00", 55):     "02779466 cdec1638 11d07881 5c633f21 90141308 1449002f 24aa3e80 f0b88ef7",
		strings.Repeat("\x00", 56):     "d4817aa5 497628e7 c77e6b60 6107042b bba31308 88c5f47a 375e6179 be789fbb",
		strings.Repeat("\x00", 57):     "65a16cb7 861335d5 ace3c607 18b5052e 44660726 da4cd13b b745381b 235a1785",
		strings.Repeat("\x00", 64):     "f5a5fd42 d16a2030 2798ef6e d309979b 43003d23 20d9f0e8 ea9831a9 2759fb4b",
		strings.Repeat("\x00", 1000):   "541b3e9d aa09b20b f85fa273 e5cbd3e8 0185aa4e c298e765 db87742b 70138a53",
		strings.Repeat("A", 1000):      "c2e68682 3489ced2 017f6059 b8b23931 8b6364f6 dcd835d0 a519105a 1eadd6e4",
		strings.Repeat("a", 1_000_000): "cdc76e5c 9914fb92 81a1c7e2 84d73e67 f1809a48 a497200e 046d39cc c7112cd0",
		"abcdbcdecdefdefgefghfghighijhijkijkljklmklmnlmnomnopnopq":                                                         "248d6a61 d20638b8 e5c02693 0c3e6039 a33ce459 64ff2167 f6ecedd4 19db06c1",
		"abcdefghbcdefghicdefghijdefghijkefghijklfghijklmghijklmnhijklmnoijklmnopjklmnopqklmnopqrlmnopqrsmnopqrstnopqrstu": "cf5b16a7 78af8380 036ce59e 7b049237 0b249b11 e8f07a51 afac4503 7afee9d1",
	} {
		digested(t, "P10.3", bin(t, want), []byte(message))
	}
}

// TestOfLongMessages goes to lengths whose number of bits takes one more byte.
func TestOfLongMessages(t *testing.T) {
	room := some(1<<20, 51)
	for _, n := range []int{31, 32, 1<<13 - 1, 1 << 13, 1<<21 - 1, 1 << 21, 1 << 29} {
		if n > 1<<21 && testing.Short() {
			continue
		}
		var parts [][]byte
		h := sha256.New()
		for left := n; left > 0; left -= len(parts[len(parts)-1]) {
			part := room[:min(left, len(room))]
			h.Write(part)
			parts = append(parts, part)
		}
		digested(t, "P10.3", h.Sum(nil), parts...)
	}
}

// TestOfBits alters each bit of a message.
func TestOfBits(t *testing.T) {
	for _, n := range []int{1, 55, 56, 64, 65, 130} {
		message := some(n, 61)
		for i := range 8 * n {
			message[i/8] ^= 1 << (i % 8)
			digested(t, "P10.3", whole(message), message)
			message[i/8] ^= 1 << (i % 8)
		}
	}
}

// padded is what the chapter puts behind a message of n bytes.
func padded(n int) []byte {
	b := []byte{128}
	for (n+len(b))%64 != 56 {
		b = append(b, 0)
	}
	return binary.BigEndian.AppendUint64(b, uint64(8*n))
}

// TestOfIsOfRounds holds digests against Round of the blocks of a message with
// its padding.
func TestOfIsOfRounds(t *testing.T) {
	for n := range 300 {
		message := some(n, uint32(n))
		s := first()
		for b := range slices.Chunk(slices.Concat(message, padded(n)), 64) {
			next, e := digest.Round(s, b)
			if len(next) != 8 || e != api.OK {
				t.Fatalf("P10.2: Round(%x, %x) = %x, %d", s, b, next, e)
			}
			s = next
		}
		digested(t, "P10.3", encoded(s), message)
	}
}

// TestOneMoreRound puts one more block behind messages of whole blocks, and
// before the padding of others.
func TestOneMoreRound(t *testing.T) {
	for blocks := range 6 {
		message := some(64*blocks, uint32(blocks))
		s := first()
		for b := range slices.Chunk(message, 64) {
			s, _ = digest.Round(s, b)
		}
		for _, rest := range []int{0, 1, 55} {
			end := some(rest, 71)
			for seed := range uint32(10) {
				block := some(64, 80+seed)
				more, _ := digest.Round(s, block)
				short, _ := digest.Round(s, slices.Concat(end, padded(len(message)+rest)))
				long, _ := digest.Round(more, slices.Concat(end, padded(len(message)+64+rest)))
				digested(t, "P10.4", encoded(short), message, end)
				digested(t, "P10.4", encoded(long), message, block, end)
			}
		}
	}
}

// TestTwoParts parts messages at each place, with and without empty parts.
func TestTwoParts(t *testing.T) {
	for _, n := range []int{1, 2, 55, 56, 57, 63, 64, 65, 119, 120, 128, 200} {
		message := some(n, 91)
		want := whole(message)
		digested(t, "P10.4", want, message)
		for at := range n + 1 {
			digested(t, "P10.4", want, message[:at], message[at:])
			digested(t, "P10.4", want, nil, message[:at], []byte{}, nil, message[at:], nil)
		}
	}
}

// TestThreeParts parts a message at each two places.
func TestThreeParts(t *testing.T) {
	message := some(140, 92)
	want := whole(message)
	for one := range len(message) + 1 {
		for two := one; two <= len(message); two++ {
			digested(t, "P10.4", want, message[:one], message[one:two], message[two:])
		}
	}
}

// TestEvenParts parts messages into parts of one length.
func TestEvenParts(t *testing.T) {
	for _, n := range []int{1, 64, 127, 128, 1000} {
		message := some(n, 93)
		want := whole(message)
		for size := 1; size <= min(n, 200); size++ {
			digested(t, "P10.4", want, slices.Collect(slices.Chunk(message, size))...)
		}
	}
}

// TestManyParts parts messages without a plain order.
func TestManyParts(t *testing.T) {
	for seed := range uint32(300) {
		message := some(int(seed)*3, seed)
		var parts [][]byte
		rest := message
		for _, x := range some(40, 1000+seed) {
			n := min(int(x)%70, len(rest))
			parts = append(parts, rest[:n])
			rest = rest[n:]
		}
		digested(t, "P10.4", whole(message), append(parts, rest)...)
	}
}

// TestOtherMessages looks for messages that differ and have one digest, padded
// ones among them.
func TestOtherMessages(t *testing.T) {
	seen := map[string]int{}
	for n := range 200 {
		seen[string(digest.Of(make([]byte, n)))]++
		seen[string(digest.Of(make([]byte, n), []byte{128}))]++
		seen[string(digest.Of(make([]byte, n), padded(n)))]++
	}
	if len(seen) != 600 {
		t.Errorf("P10.3: 600 messages have %d digests", len(seen))
	}
}

// TestMemory looks for arguments that are altered, their spare capacity too,
// and for results that share memory with them.
func TestMemory(t *testing.T) {
	room, numbersRoom := some(400, 101), state(20, 102)
	parts := [][]byte{room[:10], nil, room[10:150], {}, room[3:77], room[200:], room[390:]}
	kept, keptNumbers, keptParts := slices.Clone(room), slices.Clone(numbersRoom), slices.Clone(parts)
	message := slices.Concat(parts[:5]...)
	for _, size := range []int{0, 10, 63, 64, 65} {
		digest.Words(room[:size])
		digest.Round(numbersRoom[:8], room[:size])
		digest.Round(numbersRoom[:7], room[:size])
	}
	digested(t, "P10.3", whole(message), parts[:5]...)
	digested(t, "P10.3", whole(room[:3]), room[:3])
	digested(t, "P10.3", whole(room[:60]), room[:60])
	if !bytes.Equal(room, kept) || !slices.Equal(numbersRoom, keptNumbers) {
		t.Fatal("P10.1, P10.2, P10.3: an argument is altered")
	}
	for i := range parts {
		if len(parts[i]) != len(keptParts[i]) || len(parts[i]) > 0 && &parts[i][0] != &keptParts[i][0] {
			t.Fatal("P10.3: the list of the parts is altered")
		}
	}
	w, _ := digest.Words(room[:64])
	s, _ := digest.Round(numbersRoom[:8], room[:64])
	d := digest.Of(parts[:5]...)
	clear(room)
	clear(numbersRoom)
	clear(parts)
	if !slices.Equal(w, schedule(kept[:64])) || !slices.Equal(s, after(t, keptNumbers[:8], kept[:64])) || !bytes.Equal(d, whole(message)) {
		t.Error("P10.1, P10.2, P10.3: a result shares memory with an argument")
	}
}

// TestResultsAreNew writes over results, with the room behind them, and asks
// again.
func TestResultsAreNew(t *testing.T) {
	block, before := some(64, 111), state(8, 112)
	for range 3 {
		w, e := digest.Words(block)
		if !slices.Equal(w, schedule(block)) || e != api.OK {
			t.Fatalf("P10.1: Words = %x, %d", w, e)
		}
		s, e := digest.Round(before, block)
		if !slices.Equal(s, after(t, before, block)) || e != api.OK {
			t.Fatalf("P10.2: Round = %x, %d", s, e)
		}
		d, empty := digest.Of(block), digest.Of()
		if !bytes.Equal(d, whole(block)) || !bytes.Equal(empty, whole(nil)) {
			t.Fatalf("P10.3: Of = %x, %x", d, empty)
		}
		clear(w[:cap(w)])
		if !slices.Equal(s, after(t, before, block)) {
			t.Fatal("P10.2: a state shares memory with a schedule")
		}
		clear(s[:cap(s)])
		clear(d[:cap(d)])
		if !bytes.Equal(empty, whole(nil)) {
			t.Fatal("P10.3: two digests share memory")
		}
		clear(empty[:cap(empty)])
	}
}

// TestOneRoom passes a list of parts that all lie in one place, and a state that
// Round made.
func TestOneRoom(t *testing.T) {
	room := some(100, 121)
	digested(t, "P10.4", whole(slices.Concat(room, room, room[:50])), room, room, room[:50])
	s, _ := digest.Round(first(), room[:64])
	next := after(t, s, room[36:])
	rounded(t, "P10.2", s, room[36:], next)
	rounded(t, "P10.2", s, room[36:], next)
}
