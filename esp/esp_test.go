package esp_test

import (
	"bytes"
	"crypto/aes"
	"crypto/cipher"
	"crypto/hmac"
	"crypto/sha256"
	"encoding/binary"
	"encoding/hex"
	"math"
	"slices"
	"strings"
	"testing"

	"redoubt/api"
	"redoubt/ctr"
	"redoubt/esp"
	"redoubt/mac"
	"redoubt/pad"
)

const (
	top32 = uint64(math.MaxUint32)
	top64 = uint64(math.MaxUint64)
	most  = 65498 // bytes of data that may be sealed
)

// some is n bytes without a plain order.
func some(n int, seed uint32) []byte {
	b := make([]byte, n)
	for i := range b {
		seed = seed*1664525 + 1013904223
		b[i] = byte(seed >> 24)
	}
	return b
}

// text is n bytes as a string.
func text(n int, seed uint32) string { return string(some(n, seed)) }

// plain is a valid association whose sequence numbers have 32 bits.
func plain() api.Sa {
	return api.Sa{Spi: 0x12345678, Key: text(16, 1), Salt: text(4, 2), Mac: text(32, 3), Window: 64}
}

// wide is a valid association whose sequence numbers have 64 bits.
func wide() api.Sa {
	return api.Sa{Spi: 0x80c0ffee, Key: text(32, 4), Salt: text(4, 5), Mac: text(32, 6), Esn: true, Window: 1024}
}

// sas are valid associations, those at the edges among them.
func sas() []api.Sa {
	long, short := plain(), wide()
	long.Key, long.Spi, long.Window = text(32, 7), 256, 1024
	short.Key, short.Spi, short.Window = text(16, 8), math.MaxUint32, 64
	return []api.Sa{plain(), wide(), long, short}
}

// seqs are sequence numbers of an association, those at the edges among them.
func seqs(sa api.Sa) []uint64 {
	list := []uint64{1, 2, 7, 255, 256, 0x01020304, 1 << 31, top32 - 1, top32}
	if sa.Esn {
		list = append(list, 1<<32, 1<<32+1, 0x0102030405060708, 1<<63, top64-top32, top64-1, top64)
	}
	return list
}

// oddSeqs are numbers that an association doesn't have.
func oddSeqs(sa api.Sa) []uint64 {
	if sa.Esn {
		return []uint64{0}
	}
	return []uint64{0, 1 << 32, 1<<32 + 1, 1<<33 + 7, 1 << 63, top64 - top32, top64}
}

// nexts are right ones, the least and the greatest among them.
var nexts = []int{0, 1, 4, 6, 17, 41, 59, 127, 128, 254, 255}

// oddNexts are wrong ones.
var oddNexts = []int{-1, -2, -256, math.MinInt32, math.MinInt, 256, 257, 511, 512, math.MaxInt32, math.MaxInt}

// brief is a text of some bytes, cut if they are many.
func brief(b []byte) string {
	if len(b) > 80 {
		return hex.EncodeToString(b[:30]) + ".." + hex.EncodeToString(b[len(b)-20:])
	}
	return hex.EncodeToString(b)
}

// tagged is bytes with the tag that they ask for, made without the layers.
func tagged(sa api.Sa, seq uint64, b []byte) []byte {
	h := hmac.New(sha256.New, []byte(sa.Mac))
	h.Write(b)
	if sa.Esn {
		h.Write(binary.BigEndian.AppendUint32(nil, uint32(seq>>32)))
	}
	return append(slices.Clone(b), h.Sum(nil)[:16]...)
}

// turned is bytes encrypted in counter mode, made without the layers.
func turned(sa api.Sa, iv []byte, b []byte) []byte {
	block, err := aes.NewCipher([]byte(sa.Key))
	if err != nil {
		panic(err)
	}
	out := make([]byte, len(b))
	cipher.NewCTR(block, slices.Concat([]byte(sa.Salt), iv, []byte{0, 0, 0, 1})).XORKeyStream(out, b)
	return out
}

// head is the Spi and the low half of a sequence number.
func head(spi int, seq uint64) []byte {
	b := binary.BigEndian.AppendUint32(nil, uint32(spi))
	return binary.BigEndian.AppendUint32(b, uint32(seq))
}

// trailed is data with the least trailer.
func trailed(data []byte, next int) []byte {
	b, n := slices.Clone(data), 0
	for (len(b)+2)%4 != 0 {
		n++
		b = append(b, byte(n))
	}
	return append(b, byte(n), byte(next))
}

// made is a payload with any inside and any iv, and a tag that fits it.
func made(sa api.Sa, seq uint64, iv []byte, inside []byte) []byte {
	return tagged(sa, seq, slices.Concat(head(sa.Spi, seq), iv, turned(sa, iv, inside)))
}

// ivOf is the iv that Seal takes.
func ivOf(seq uint64) []byte { return binary.BigEndian.AppendUint64(nil, seq) }

// expected is what Seal answers by the chapter's words.
func expected(sa api.Sa, seq uint64, data []byte, next int) []byte {
	return made(sa, seq, ivOf(seq), trailed(data, next))
}

// sealed fails unless Seal answers what the chapter says, and Length how much.
func sealed(t *testing.T, sa api.Sa, seq uint64, data []byte, next int) []byte {
	t.Helper()
	want := expected(sa, seq, data, next)
	b, e := esp.Seal(sa, seq, data, next)
	if !bytes.Equal(b, want) || e != api.OK {
		t.Fatalf("P14.2: Seal of %d, %d bytes and %d = %s, %d, not %s", seq, len(data), next, brief(b), e, brief(want))
	}
	if n := esp.Length(len(data)); n != len(want) {
		t.Errorf("P14.1: Length(%d) = %d, not %d", len(data), n, len(want))
	}
	return b
}

// unsealed fails unless Seal refuses with an error.
func unsealed(t *testing.T, want api.Errno, sa api.Sa, seq uint64, data []byte, next int) {
	t.Helper()
	if b, e := esp.Seal(sa, seq, data, next); len(b) != 0 || e != want {
		t.Errorf("P14.2: Seal(%+v, %d, %d bytes, %d) = %s, %d, not %d", sa, seq, len(data), next, brief(b), e, want)
	}
}

// opened fails unless Open answers data and what comes next.
func opened(t *testing.T, promise string, data []byte, next int, sa api.Sa, seq uint64, b []byte) {
	t.Helper()
	if d, n, e := esp.Open(sa, seq, b); !bytes.Equal(d, data) || n != next || e != api.OK {
		t.Errorf("%s: Open(%+v, %d, %s) = %s, %d, %d, not %s, %d", promise, sa, seq, brief(b), brief(d), n, e, brief(data), next)
	}
}

// refused fails unless Open refuses with an error.
func refused(t *testing.T, promise string, want api.Errno, sa api.Sa, seq uint64, b []byte) {
	t.Helper()
	if d, n, e := esp.Open(sa, seq, b); len(d) != 0 || n != 0 || e != want {
		t.Errorf("%s: Open(%+v, %d, %s) = %s, %d, %d, not %d", promise, sa, seq, brief(b), brief(d), n, e, want)
	}
}

// peeked fails unless Peek answers an Spi and a low half.
func peeked(t *testing.T, spi int, low int, b []byte) {
	t.Helper()
	if s, l, e := esp.Peek(b); s != spi || l != low || e != api.OK {
		t.Errorf("P14.3: Peek(%s) = %d, %d, %d, not %d, %d", brief(b), s, l, e, spi, low)
	}
}

// TestExamples holds the calls against the chapter's examples, and bytes that a
// sealed payload has been worked out to have.
func TestExamples(t *testing.T) {
	for n, want := range map[int]int{0: 36, 3: 40} {
		if m := esp.Length(n); m != want {
			t.Errorf("P14.1: Length(%d) = %d, not %d", n, m, want)
		}
	}
	peeked(t, 256, 2, []byte{0, 0, 1, 0, 0, 0, 0, 2})
	sa := plain()
	p := sealed(t, sa, 7, []byte("abc"), 4)
	opened(t, "P14.3", []byte("abc"), 4, sa, 7, p)
	refused(t, "P14.3", api.ErrForm, sa, 8, p)

	sa = api.Sa{Spi: 0x12345678, Key: "0123456789abcdef", Salt: "salt", Mac: strings.Repeat("mac!", 8), Window: 64}
	for _, x := range []struct {
		esn  bool
		seq  uint64
		want string
	}{
		{false, 7, "12345678000000070000000000000007"},
		{true, 0x0102030405060708, "12345678050607080102030405060708"},
	} {
		sa.Esn = x.esn
		if b := sealed(t, sa, x.seq, []byte("abc"), 4); hex.EncodeToString(b[:16]) != x.want {
			t.Errorf("P14.2: Seal of %d begins with %s, not %s", x.seq, hex.EncodeToString(b[:16]), x.want)
		}
	}
}

// variants are associations whose parts have all sizes at the edges, in every
// combination; each is passed with whether it is valid.
func variants(visit func(sa api.Sa, valid bool)) {
	spis := []int{-1, 0, 1, 255, 256, 257, 4294967295, 4294967296, math.MinInt, math.MaxInt}
	keys := []int{0, 15, 16, 17, 24, 31, 32, 33, 48, 64}
	salts := []int{0, 3, 4, 5, 8}
	macs := []int{0, 16, 31, 32, 33, 64}
	windows := []int{math.MinInt, -64, 0, 63, 64, 65, 1023, 1024, 1025, math.MaxInt}
	for _, spi := range spis {
		for _, key := range keys {
			for _, salt := range salts {
				for _, m := range macs {
					for _, window := range windows {
						sa := api.Sa{Spi: spi, Key: text(key, 1), Salt: text(salt, 2), Mac: text(m, 3), Window: window}
						valid := slices.Contains([]int{256, 257, 4294967295}, spi) && (key == 16 || key == 32) &&
							salt == 4 && m == 32 && slices.Contains([]int{64, 65, 1023, 1024}, window)
						visit(sa, valid)
						sa.Esn = true
						visit(sa, valid)
					}
				}
			}
		}
	}
}

// TestCheck asks for associations with no, one or several parts at or beyond an
// edge; the other calls refuse those that aren't valid, whatever else is wrong.
func TestCheck(t *testing.T) {
	data := []byte("abc")
	b := sealed(t, plain(), 1, data, 4)
	variants(func(sa api.Sa, valid bool) {
		want := api.ErrArg
		if valid {
			want = api.OK
		}
		if e := esp.Check(sa); e != want {
			t.Errorf("P14.1: Check(%+v) = %d, not %d", sa, e, want)
		}
		if valid {
			opened(t, "P14.4", data, 4, sa, 1, sealed(t, sa, 1, data, 4))
			return
		}
		unsealed(t, api.ErrArg, sa, 1, data, 4)
		refused(t, "P14.3", api.ErrArg, sa, 1, b)
		refused(t, "P14.3", api.ErrArg, sa, 1, nil)
	})
	if e := esp.Check(api.Sa{}); e != api.ErrArg {
		t.Errorf("P14.1: Check of none = %d", e)
	}
}

// TestCheckSizes asks for parts of all small sizes.
func TestCheckSizes(t *testing.T) {
	ask := func(sa api.Sa, valid bool) {
		if e := esp.Check(sa); (e == api.OK) != valid || !valid && e != api.ErrArg {
			t.Errorf("P14.1: Check(%+v) = %d", sa, e)
		}
	}
	for n := range 300 {
		for _, sa := range sas() {
			key, salt, m, spi, window := sa, sa, sa, sa, sa
			key.Key, salt.Salt, m.Mac = text(n, 1), text(n, 2), text(n, 3)
			spi.Spi, window.Window = n, n
			ask(key, n == 16 || n == 32)
			ask(salt, n == 4)
			ask(m, n == 32)
			ask(spi, n >= 256)
			ask(window, n >= 64)
		}
	}
	for n := -300; n < 2000; n++ {
		sa := wide()
		sa.Window = n
		ask(sa, n >= 64 && n <= 1024)
	}
}

// TestLength asks for negative numbers, for small ones and for great ones, those
// that are too great for Seal among them.
func TestLength(t *testing.T) {
	for n, want := range []int{36, 36, 36, 40, 40, 40, 40, 44} {
		if m := esp.Length(n); m != want {
			t.Errorf("P14.1: Length(%d) = %d, not %d", n, m, want)
		}
	}
	for _, n := range []int{-1, -2, -3, -4, -32, -36, -65535, math.MinInt32, math.MinInt + 1, math.MinInt} {
		if m := esp.Length(n); m != 0 {
			t.Errorf("P14.1: Length(%d) = %d, not 0", n, m)
		}
	}
	list := []int{1 << 20, 1<<30 - 1, 1 << 30, 1<<31 - 40, 1<<31 - 39, 1<<31 - 38}
	for n := range 70000 {
		list = append(list, n)
	}
	for _, n := range list {
		if m := esp.Length(n); m != 32+pad.Length(n) || m < n+34 || m > n+37 || m%4 != 0 {
			t.Errorf("P14.1: Length(%d) = %d", n, m)
		}
	}
}

// TestSealShort seals data of few bytes under every kind of association, beside
// every sequence number and next at an edge.
func TestSealShort(t *testing.T) {
	for _, sa := range sas() {
		for _, seq := range seqs(sa) {
			sealed(t, sa, seq, nil, 6)
			for n := range 7 {
				for _, next := range nexts {
					sealed(t, sa, seq, some(n, 9), next)
				}
			}
		}
	}
	for next := range 256 {
		sealed(t, plain(), 1, []byte("abcd"), next)
	}
}

// TestSealLengths seals data of many lengths, the greatest among them.
func TestSealLengths(t *testing.T) {
	long := some(most, 10)
	for _, sa := range sas() {
		for n := range 130 {
			sealed(t, sa, 5, long[:n], 17)
		}
		for _, n := range []int{1000, 4095, 4096, 65494, 65495, 65496, 65497, most} {
			b := sealed(t, sa, top32, long[:n], 17)
			opened(t, "P14.4", long[:n], 17, sa, top32, b)
		}
	}
}

// TestSealParts holds a sealed payload against what the lower layers answer.
func TestSealParts(t *testing.T) {
	for _, sa := range sas() {
		for _, seq := range seqs(sa) {
			data := some(33, uint32(seq))
			b := sealed(t, sa, seq, data, 41)
			inside, _ := pad.Seal(data, 41)
			body, _ := ctr.Turn([]byte(sa.Key), []byte(sa.Salt), b[8:16], inside)
			end := len(b) - 16
			var high []byte
			if sa.Esn {
				high = ivOf(seq)[:4]
			}
			tag, _ := mac.Tag([]byte(sa.Mac), b[:end], high)
			peeked(t, sa.Spi, int(seq%(1<<32)), b)
			if binary.BigEndian.Uint64(b[8:]) != seq || !bytes.Equal(b[16:end], body) || !bytes.Equal(b[end:], tag) {
				t.Errorf("P14.2: Seal of %d = %s", seq, brief(b))
			}
		}
	}
}

// TestSealRefuses passes wrong arguments, alone and together: those that may not
// be come before too much data.
func TestSealRefuses(t *testing.T) {
	datas := [][]byte{nil, {}, []byte("abc"), some(most, 1), some(most+1, 1), some(65535, 1), some(65536, 1), some(1<<20, 1)}
	for _, sa := range sas() {
		odd := sa
		odd.Window = 63
		for _, data := range datas {
			for _, next := range oddNexts {
				unsealed(t, api.ErrArg, sa, 1, data, next)
				unsealed(t, api.ErrArg, sa, 0, data, next)
				unsealed(t, api.ErrArg, odd, 1, data, next)
				unsealed(t, api.ErrArg, odd, 0, data, next)
			}
			for _, seq := range oddSeqs(sa) {
				unsealed(t, api.ErrArg, sa, seq, data, 6)
				unsealed(t, api.ErrArg, odd, seq, data, 6)
			}
			unsealed(t, api.ErrArg, odd, 1, data, 6)
		}
		for _, n := range []int{most + 1, most + 2, most + 3, most + 4, most + 5, 65535, 65536, 65537, 1 << 20} {
			for _, seq := range seqs(sa) {
				unsealed(t, api.ErrLong, sa, seq, some(n, 1), 0)
				unsealed(t, api.ErrLong, sa, seq, some(n, 1), 255)
			}
		}
	}
}

// TestPeek reads both numbers of texts of all lengths.
func TestPeek(t *testing.T) {
	long := some(100, 11)
	for n := range 100 {
		if n >= 8 {
			peeked(t, int(binary.BigEndian.Uint32(long)), int(binary.BigEndian.Uint32(long[4:])), long[:n])
			continue
		}
		if spi, low, e := esp.Peek(long[:n]); spi != 0 || low != 0 || e != api.ErrMore {
			t.Errorf("P14.3: Peek of %d bytes = %d, %d, %d", n, spi, low, e)
		}
	}
	if spi, low, e := esp.Peek(nil); spi != 0 || low != 0 || e != api.ErrMore {
		t.Errorf("P14.3: Peek of none = %d, %d, %d", spi, low, e)
	}
	numbers := []int{0, 1, 2, 255, 256, 65535, 65536, 1 << 24, 1<<31 - 1, 1 << 31, math.MaxUint32}
	for _, spi := range numbers {
		for _, low := range numbers {
			peeked(t, spi, low, head(spi, uint64(low)))
			peeked(t, spi, low, append(head(spi, uint64(low)), 9))
		}
	}
	for i := range 8 {
		b := make([]byte, 8)
		b[i] = 0xab
		peeked(t, int(binary.BigEndian.Uint32(b)), int(binary.BigEndian.Uint32(b[4:])), b)
	}
}

// TestOpenShort passes fewer than 36 bytes, whatever they are.
func TestOpenShort(t *testing.T) {
	for _, sa := range sas() {
		for _, seq := range seqs(sa) {
			b := expected(sa, seq, nil, 6)
			refused(t, "P14.3", api.ErrMore, sa, seq, nil)
			for n := range 36 {
				refused(t, "P14.3", api.ErrMore, sa, seq, b[:n])
				refused(t, "P14.3", api.ErrMore, sa, seq, make([]byte, n))
			}
			opened(t, "P14.3", nil, 6, sa, seq, b)
			refused(t, "P14.3", api.ErrMore, sa, seq, made(sa, seq, ivOf(seq), nil))
			refused(t, "P14.3", api.ErrMore, sa, seq, made(sa, seq, ivOf(seq), []byte{0, 6}))
			refused(t, "P14.3", api.ErrMore, sa, seq, made(sa, seq, ivOf(seq), []byte{1, 1, 6}))
		}
	}
}

// TestOpenLengths passes bodies of all lengths, with tags that fit: only a
// multiple of four is right.
func TestOpenLengths(t *testing.T) {
	for _, sa := range sas() {
		for n := 4; n < 80; n++ {
			data := some(n-2, 12)
			b := made(sa, 9, ivOf(9), append(slices.Clone(data), 0, 50))
			if n%4 == 0 {
				opened(t, "P14.3", data, 50, sa, 9, b)
				continue
			}
			refused(t, "P14.3", api.ErrForm, sa, 9, b)
			b[len(b)-1] ^= 1
			refused(t, "P14.3", api.ErrForm, sa, 9, b)
		}
		b := expected(sa, 9, []byte("abcdef"), 50)
		for n := 36; n < len(b); n++ {
			want := api.ErrIcv
			if n%4 != 0 {
				want = api.ErrForm
			}
			refused(t, "P14.3", want, sa, 9, b[:n])
		}
		for n := 1; n < 9; n++ {
			want := api.ErrIcv
			if n%4 != 0 {
				want = api.ErrForm
			}
			refused(t, "P14.3", want, sa, 9, append(slices.Clone(b), make([]byte, n)...))
		}
	}
}

// TestOpenArgs passes wrong sequence numbers and wrong associations, beside bytes
// that are right and bytes that are wrong as well.
func TestOpenArgs(t *testing.T) {
	for _, sa := range sas() {
		odd := sa
		odd.Salt = "salty"
		for _, seq := range oddSeqs(sa) {
			for _, b := range [][]byte{nil, make([]byte, 35), make([]byte, 36), make([]byte, 37), expected(sa, seq, []byte("abc"), 4)} {
				refused(t, "P14.3", api.ErrArg, sa, seq, b)
				refused(t, "P14.3", api.ErrArg, odd, seq, b)
				refused(t, "P14.3", api.ErrArg, odd, 1, b)
			}
		}
	}
}

// TestOpenOtherHead passes payloads of another Spi and of other low bits, with
// tags that fit them.
func TestOpenOtherHead(t *testing.T) {
	for _, sa := range sas() {
		for _, seq := range seqs(sa) {
			b := expected(sa, seq, []byte("abc"), 4)
			for bit := range 64 {
				c := slices.Clone(b[:len(b)-16])
				c[bit/8] ^= 1 << (bit % 8)
				refused(t, "P14.3", api.ErrForm, sa, seq, tagged(sa, seq, c))
				refused(t, "P14.3", api.ErrForm, sa, seq, append(c, b[len(b)-16:]...))
			}
			for _, other := range seqs(sa) {
				if uint32(other) != uint32(seq) {
					refused(t, "P14.3", api.ErrForm, sa, other, b)
				}
			}
		}
	}
}

// TestOpenHighHalf passes a sequence number with the same low bits and another
// high half: the tag tells it with Esn, and without Esn there is no other half.
func TestOpenHighHalf(t *testing.T) {
	for _, sa := range sas() {
		for _, low := range []uint64{1, 7, 1 << 31, top32} {
			b := expected(sa, low, []byte("abc"), 4)
			opened(t, "P14.3", []byte("abc"), 4, sa, low, b)
			for bit := 32; bit < 64; bit++ {
				want := api.ErrArg
				if sa.Esn {
					want = api.ErrIcv
					high := low | 1<<bit
					c := expected(sa, high, []byte("abc"), 4)
					opened(t, "P14.3", []byte("abc"), 4, sa, high, c)
					refused(t, "P14.3", api.ErrIcv, sa, low, c)
				}
				refused(t, "P14.3", want, sa, low|1<<bit, b)
			}
		}
	}
	sa := wide()
	refused(t, "P14.3", api.ErrArg, sa, 0, expected(sa, 1<<32, nil, 4))
	opened(t, "P14.3", nil, 4, sa, 1<<32, expected(sa, 1<<32, nil, 4))
}

// TestOpenEsn opens with Esn what was sealed without it, and the other way round:
// the high half, though it is 0, is a part of what the tag is for.
func TestOpenEsn(t *testing.T) {
	for _, sa := range sas() {
		other := sa
		other.Esn = !sa.Esn
		refused(t, "P14.3", api.ErrIcv, other, 7, expected(sa, 7, []byte("abc"), 4))
	}
}

// TestOpenOtherKeys opens under associations of which one part differs.
func TestOpenOtherKeys(t *testing.T) {
	for _, sa := range sas() {
		b := expected(sa, 7, []byte("abcdefgh"), 4)
		other := sa
		other.Mac = text(31, 1) + "x"
		refused(t, "P14.3", api.ErrIcv, other, 7, b)
		other = sa
		other.Spi ^= 1 << 10
		refused(t, "P14.3", api.ErrForm, other, 7, b)
		other = sa
		other.Window = 100
		opened(t, "P14.3", []byte("abcdefgh"), 4, other, 7, b)
		for _, change := range []func(){func() { other.Salt = "slat" }, func() { other.Key = text(16, 20) }, func() { other.Key = text(32, 20) }} {
			other = sa
			change()
			c := made(sa, 7, ivOf(7), bytes.Repeat([]byte{0xee}, 16))
			d := made(other, 7, ivOf(7), trailed([]byte("abcdefgh"), 4))
			opened(t, "P14.3", []byte("abcdefgh"), 4, other, 7, d)
			if bytes.Equal(b, d) {
				t.Errorf("P14.2: a part of %+v makes no difference", sa)
			}
			refused(t, "P14.3", api.ErrPad, sa, 7, c)
		}
	}
}

// TestOpenChanged replaces each byte of payloads by every other value.
func TestOpenChanged(t *testing.T) {
	for _, sa := range []api.Sa{plain(), wide()} {
		for _, n := range []int{0, 1, 2, 5} {
			b := sealed(t, sa, 0x01020304, some(n, 13), 6)
			for i := range b {
				want := api.ErrIcv
				if i < 8 {
					want = api.ErrForm
				}
				kept := b[i]
				for x := 1; x < 256; x++ {
					b[i] = kept ^ byte(x)
					refused(t, "P14.3, P14.4", want, sa, 0x01020304, b)
				}
				b[i] = kept
			}
			opened(t, "P14.4", some(n, 13), 6, sa, 0x01020304, b)
		}
	}
}

// TestOpenChangedLong replaces one bit of a long payload at each place.
func TestOpenChangedLong(t *testing.T) {
	for _, sa := range sas() {
		b := sealed(t, sa, 3, some(300, 14), 6)
		for i := range b {
			want := api.ErrIcv
			if i < 8 {
				want = api.ErrForm
			}
			b[i] ^= 1 << (i % 8)
			refused(t, "P14.3, P14.4", want, sa, 3, b)
			b[i] ^= 1 << (i % 8)
		}
	}
}

// TestOpenRetagged replaces a byte behind the head and the tag with it: it is
// accepted as what it then says.
func TestOpenRetagged(t *testing.T) {
	sa := wide()
	data := []byte("abcdef")
	b := sealed(t, sa, 3, data, 6)
	for i := 16; i < 22; i++ {
		c := slices.Clone(b[:len(b)-16])
		c[i] ^= 0x20
		changed := slices.Clone(data)
		changed[i-16] ^= 0x20
		opened(t, "P14.4", changed, 6, sa, 3, tagged(sa, 3, c))
	}
	c := slices.Clone(b[:len(b)-16])
	c[23] ^= 6 ^ 41
	opened(t, "P14.4", data, 41, sa, 3, tagged(sa, 3, c))
}

// TestOpenIv opens payloads whose iv isn't their sequence number.
func TestOpenIv(t *testing.T) {
	for _, sa := range sas() {
		for _, seq := range seqs(sa) {
			for _, iv := range [][]byte{make([]byte, 8), bytes.Repeat([]byte{255}, 8), []byte("anything"), ivOf(seq + 1), ivOf(seq)} {
				data := some(int(seq%50), 15)
				opened(t, "P14.3", data, 17, sa, seq, made(sa, seq, iv, trailed(data, 17)))
			}
		}
	}
}

// TestOpenPadding passes insides that are no right padding, with tags that fit,
// and padding that is longer than it must be.
func TestOpenPadding(t *testing.T) {
	for _, sa := range sas() {
		for _, inside := range [][]byte{
			{1, 3, 2, 6}, {2, 1, 2, 6}, {0, 0, 2, 6}, {1, 2, 3, 6}, {1, 2, 4, 6}, {1, 2, 255, 6},
			{'a', 'b', 'c', 'd', 'e', 'f', 1, 6}, {'a', 'b', 'c', 'd', 1, 2, 3, 6}, {0, 1, 2, 3, 4, 5, 6, 6},
			append(bytes.Repeat([]byte{7}, 62), 7, 6),
		} {
			refused(t, "P14.3", api.ErrPad, sa, 7, made(sa, 7, ivOf(7), inside))
			refused(t, "P14.3", api.ErrPad, sa, 7, made(sa, 7, []byte("anything"), inside))
		}
		for n := range 64 {
			inside := []byte("data")
			for i := range 4*n + 2 {
				inside = append(inside, byte(i+1))
			}
			inside = append(inside, byte(4*n+2), 6)
			opened(t, "P14.3", []byte("data"), 6, sa, 7, made(sa, 7, ivOf(7), inside))
		}
		for last := range 256 {
			inside := []byte{0xee, 0xee, byte(last), 6}
			if last == 0 {
				opened(t, "P14.3", inside[:2], 6, sa, 7, made(sa, 7, ivOf(7), inside))
			} else {
				refused(t, "P14.3", api.ErrPad, sa, 7, made(sa, 7, ivOf(7), inside))
			}
		}
	}
}

// TestOpenLong passes bodies as long as can be decrypted, which is more than Seal
// makes, and longer ones, with tags that fit and tags that don't.
func TestOpenLong(t *testing.T) {
	for _, sa := range sas() {
		for _, n := range []int{65500, 65504, 65532, 65536} {
			data := some(n-2, 16)
			b := made(sa, 7, ivOf(7), append(slices.Clone(data), 0, 6))
			opened(t, "P14.3", data, 6, sa, 7, b)
			b[len(b)-1]++
			refused(t, "P14.3", api.ErrIcv, sa, 7, b)
		}
		for _, n := range []int{65540, 65544, 1 << 17} {
			b := made(sa, 7, ivOf(7), append(some(n-2, 16), 0, 6))
			refused(t, "P14.3", api.ErrPad, sa, 7, b)
			refused(t, "P14.3", api.ErrForm, sa, 8, b)
			b[len(b)-1]++
			refused(t, "P14.3", api.ErrIcv, sa, 7, b)
		}
		for _, n := range []int{65537, 65538, 65539} {
			refused(t, "P14.3", api.ErrForm, sa, 7, made(sa, 7, ivOf(7), append(some(n-2, 16), 0, 6)))
		}
	}
}

// fault is something wrong in a call of Open.
type fault struct {
	name string
	want api.Errno
}

// TestOpenOrder lets any number of faults meet: the first of them is told.
func TestOpenOrder(t *testing.T) {
	faults := []fault{{"association", api.ErrArg}, {"seq", api.ErrArg}, {"short", api.ErrMore}, {"length", api.ErrForm},
		{"spi", api.ErrForm}, {"low", api.ErrForm}, {"tag", api.ErrIcv}, {"padding", api.ErrPad}}
	for _, right := range sas() {
		for set := range 1 << len(faults) {
			has := func(name string) bool {
				i := slices.IndexFunc(faults, func(f fault) bool { return f.name == name })
				return set>>i&1 == 1
			}
			sa, seq, inside := right, uint64(7), []byte("data\x01\x02\x02\x06")
			if has("padding") {
				inside[4] = 9
			}
			if has("length") {
				inside = append([]byte("x"), inside...)
			}
			if has("short") {
				inside = inside[len(inside)-3:]
			}
			named, told := sa, seq
			if has("spi") {
				named.Spi++
				if named.Spi > math.MaxUint32 {
					named.Spi -= 2
				}
			}
			if has("low") {
				told = 6
			}
			b := tagged(sa, seq, slices.Concat(head(named.Spi, told), ivOf(seq), turned(sa, ivOf(seq), inside)))
			if has("tag") {
				b[len(b)-16] ^= 1
			}
			if has("association") {
				sa.Window = 1025
			}
			if has("seq") {
				seq = oddSeqs(sa)[0]
			}
			want := api.OK
			for i, f := range faults {
				if set>>i&1 == 1 {
					want = f.want
					break
				}
			}
			if want == api.OK {
				opened(t, "P14.3", []byte("data"), 6, sa, seq, b)
			} else {
				refused(t, "P14.3", want, sa, seq, b)
			}
		}
	}
}

// answer is what Open answers by the chapter's words, for valid associations.
func answer(sa api.Sa, seq uint64, b []byte) ([]byte, int, api.Errno) {
	switch {
	case seq == 0 || !sa.Esn && seq > top32:
		return nil, 0, api.ErrArg
	case len(b) < 36:
		return nil, 0, api.ErrMore
	case len(b)%4 != 0 || !bytes.HasPrefix(b, head(sa.Spi, seq)):
		return nil, 0, api.ErrForm
	case !bytes.Equal(tagged(sa, seq, b[:len(b)-16]), b):
		return nil, 0, api.ErrIcv
	}
	inside := turned(sa, b[8:16], b[16:len(b)-16])
	data, next, e := pad.Open(inside)
	if e != api.OK {
		e = api.ErrPad
	}
	return data, next, e
}

// TestOpenRandom passes payloads with tags that fit or not and insides of small
// bytes, many of which are no right padding.
func TestOpenRandom(t *testing.T) {
	list, times := sas(), map[api.Errno]int{}
	for i := range uint32(20000) {
		r := some(40, i)
		sa := list[r[0]%4]
		seq := uint64(r[1] % 4)
		told := seq
		if r[2]%8 == 0 {
			told ^= uint64(r[3]%2) | uint64(r[4]%2)<<32
		}
		inside := r[8 : 8+r[5]%20]
		for j := range inside {
			inside[j] %= 4
		}
		b := made(sa, told, r[30:38], inside)
		if r[6]%8 == 0 {
			b[int(r[7])%len(b)] ^= r[6]
		}
		data, next, want := answer(sa, seq, b)
		times[want]++
		if d, n, e := esp.Open(sa, seq, b); !bytes.Equal(d, data) || n != next || e != want {
			t.Errorf("P14.3: Open(%+v, %d, %s) = %s, %d, %d, not %s, %d, %d", sa, seq, brief(b), brief(d), n, e, brief(data), next, want)
		}
	}
	for _, e := range []api.Errno{api.OK, api.ErrArg, api.ErrMore, api.ErrForm, api.ErrIcv, api.ErrPad} {
		if times[e] < 100 {
			t.Errorf("only %d calls answer %d", times[e], e)
		}
	}
}

// TestOpenOfSeal opens what is sealed, for data and nexts of many kinds.
func TestOpenOfSeal(t *testing.T) {
	long := some(400, 17)
	for _, sa := range sas() {
		for i, seq := range seqs(sa) {
			for n := i; n < 400; n += 7 {
				next := nexts[n%len(nexts)]
				b, e := esp.Seal(sa, seq, long[:n], next)
				if e != api.OK || len(b) != esp.Length(n) {
					t.Fatalf("P14.4: Seal of %d bytes = %d bytes, %d", n, len(b), e)
				}
				opened(t, "P14.4", long[:n], next, sa, seq, b)
			}
		}
		for _, data := range [][]byte{{1, 2, 2, 6}, {0, 0}, {1, 2, 3, 3}, make([]byte, 64), bytes.Repeat([]byte{255}, 63)} {
			b, _ := esp.Seal(sa, 1, data, 0)
			opened(t, "P14.4", data, 0, sa, 1, b)
		}
	}
}

// TestSealDiffers seals one text under two numbers: no part behind the Spi stays.
func TestSealDiffers(t *testing.T) {
	for _, sa := range sas() {
		data := some(64, 18)
		one, two := sealed(t, sa, 1, data, 6), sealed(t, sa, 2, data, 6)
		if bytes.Equal(one[16:80], two[16:80]) || bytes.Equal(one[len(one)-16:], two[len(two)-16:]) {
			t.Error("P14.2: two payloads have one body or one tag")
		}
		again := sealed(t, sa, 1, data, 6)
		if !bytes.Equal(one, again) {
			t.Error("R2: two equal calls differ")
		}
	}
}

// TestMemory holds arguments, and what lies behind them, against what they were,
// and clears them to see that no result shares memory with them.
func TestMemory(t *testing.T) {
	for _, sa := range sas() {
		for n := range 20 {
			room := some(60, 19)
			kept := slices.Clone(room)
			b, _ := esp.Seal(sa, 7, room[:n], 6)
			esp.Seal(sa, 0, room[:n], 6)
			if !bytes.Equal(room, kept) {
				t.Fatalf("P14.2: data of %d bytes, or what lies behind it, is altered", n)
			}
			clear(room)
			if !bytes.Equal(b, expected(sa, 7, kept[:n], 6)) {
				t.Errorf("P14.2: a result of %d bytes shares memory with its data", n)
			}
			area := slices.Concat(b, some(40, 20))
			whole := slices.Clone(area)
			d, _, _ := esp.Open(sa, 7, area[:len(b)])
			esp.Open(sa, 8, area[:len(b)])
			esp.Open(sa, 7, area[:35])
			esp.Open(sa, 7, area[:len(b)+4])
			esp.Peek(area[:8])
			if !bytes.Equal(area, whole) {
				t.Fatalf("P14.3: a payload of %d bytes, or what lies behind it, is altered", n)
			}
			clear(area)
			if !bytes.Equal(d, kept[:n]) {
				t.Errorf("P14.3: a result of %d bytes shares memory with the payload", n)
			}
			for i := range d[:cap(d)] {
				d[:cap(d)][i] = 0xff
			}
			if !bytes.Equal(area, make([]byte, len(area))) {
				t.Errorf("P14.3: a result of %d bytes has room in the payload", n)
			}
			clear(b[:cap(b)])
			opened(t, "P14.3", kept[:n], 6, sa, 7, sealed(t, sa, 7, kept[:n], 6))
		}
	}
}
