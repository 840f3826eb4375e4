package ctr_test

import (
	"bytes"
	cipher "crypto/aes"
	mode "crypto/cipher"
	"encoding/binary"
	"encoding/hex"
	"math"
	"slices"
	"strings"
	"testing"

	"redoubt/aes"
	"redoubt/api"
	"redoubt/ctr"
)

// bin is the bytes that a hexadecimal text tells; blanks do not count.
func bin(t *testing.T, text string) []byte {
	t.Helper()
	b, err := hex.DecodeString(strings.ReplaceAll(text, " ", ""))
	if err != nil {
		t.Fatal(err)
	}
	return b
}

// some is n bytes without a plain order; none at all if n is negative.
func some(n int, seed uint32) []byte {
	if n < 0 {
		return nil
	}
	b := make([]byte, n)
	for i := range b {
		seed = seed*1664525 + 1013904223
		b[i] = byte(seed >> 24)
	}
	return b
}

// keyLengths are those of the keys that are taken.
var keyLengths = []int{16, 32}

// block is a counter block, whatever is in it.
func block(salt []byte, iv []byte, n int) []byte {
	return binary.BigEndian.AppendUint32(slices.Concat(salt, iv), uint32(n))
}

// stream is a key stream by Go's own cipher, block after block.
func stream(t *testing.T, key []byte, salt []byte, iv []byte, n int) []byte {
	t.Helper()
	c, err := cipher.NewCipher(key)
	if err != nil {
		t.Fatal(err)
	}
	b := make([]byte, 0, n+16)
	for i := 1; len(b) < n; i++ {
		out := make([]byte, 16)
		c.Encrypt(out, block(salt, iv, i))
		b = append(b, out...)
	}
	return b[:n]
}

// xor is the bitwise XOR of two texts of one length.
func xor(a []byte, b []byte) []byte {
	out := make([]byte, len(a))
	for i := range a {
		out[i] = a[i] ^ b[i]
	}
	return out
}

// short tells bytes for a message.
func short(b []byte) string {
	if len(b) <= 64 {
		return hex.EncodeToString(b)
	}
	return hex.EncodeToString(b[:64]) + ".."
}

// streamed fails unless Stream answers a key stream.
func streamed(t *testing.T, promise string, key []byte, salt []byte, iv []byte, want []byte) {
	t.Helper()
	b, e := ctr.Stream(key, salt, iv, len(want))
	if !bytes.Equal(b, want) || e != api.OK {
		t.Fatalf("%s: Stream(%x, %x, %x, %d) = %d bytes, %s, %d, not %s", promise, key, salt, iv, len(want), len(b), short(b), e, short(want))
	}
}

// turned fails unless Turn answers bytes.
func turned(t *testing.T, promise string, key []byte, salt []byte, iv []byte, in []byte, want []byte) {
	t.Helper()
	b, e := ctr.Turn(key, salt, iv, in)
	if !bytes.Equal(b, want) || e != api.OK {
		t.Fatalf("%s: Turn(%x, %x, %x, %s) = %d bytes, %s, %d, not %s", promise, key, salt, iv, short(in), len(b), short(b), e, short(want))
	}
}

// TestCounter goes through the numbers around each power of 2 that are taken.
func TestCounter(t *testing.T) {
	salt, iv := bin(t, "a1a2a3a4"), bin(t, "b1b2b3b4b5b6b7b8")
	for _, x := range []struct {
		n    int
		want string
	}{
		{1, "a1a2a3a4b1b2b3b4b5b6b7b800000001"},
		{255, "a1a2a3a4b1b2b3b4b5b6b7b8000000ff"},
		{256, "a1a2a3a4b1b2b3b4b5b6b7b800000100"},
		{0x01020304, "a1a2a3a4b1b2b3b4b5b6b7b801020304"},
		{2147483648, "a1a2a3a4b1b2b3b4b5b6b7b880000000"},
		{4294967295, "a1a2a3a4b1b2b3b4b5b6b7b8ffffffff"},
	} {
		if b, e := ctr.Counter(salt, iv, x.n); !bytes.Equal(b, bin(t, x.want)) || e != api.OK {
			t.Errorf("P9.1: Counter(%d) = %x, %d, not %s", x.n, b, e, x.want)
		}
	}
	for shift := range 33 {
		for n := 1<<shift - 2; n <= 1<<shift+2; n++ {
			if n < 1 || n > 4294967295 {
				continue
			}
			salt, iv := some(4, uint32(n)), some(8, uint32(n)+1)
			if b, e := ctr.Counter(salt, iv, n); !bytes.Equal(b, block(salt, iv, n)) || e != api.OK {
				t.Errorf("P9.1: Counter(%x, %x, %d) = %x, %d", salt, iv, n, b, e)
			}
		}
	}
}

// TestCounterRefuses goes through salts and ivs of all lengths, beside numbers
// that are right and others.
func TestCounterRefuses(t *testing.T) {
	numbers := []int{
		math.MinInt, -4294967296, -4294967295, -65536, -2, -1, 0,
		1, 2, 16, 65536, 4294967294, 4294967295,
		4294967296, 4294967297, 4294967298, 1 << 40, math.MaxInt,
	}
	for s := -1; s <= 20; s++ {
		for v := -1; v <= 20; v++ {
			for _, n := range numbers {
				salt, iv := some(s, 1), some(v, 2)
				b, e := ctr.Counter(salt, iv, n)
				if s == 4 && v == 8 && n >= 1 && n <= 4294967295 {
					if !bytes.Equal(b, block(salt, iv, n)) || e != api.OK {
						t.Errorf("P9.1: Counter(%x, %x, %d) = %x, %d", salt, iv, n, b, e)
					}
				} else if len(b) != 0 || e != api.ErrArg {
					t.Errorf("P9.1: Counter of %d and %d bytes, %d: %x, %d", s, v, n, b, e)
				}
			}
		}
	}
	for _, long := range []int{256 + 4, 256 + 8, 65536 + 4, 65536 + 8} {
		if b, e := ctr.Counter(some(long, 1), some(8, 2), 1); len(b) != 0 || e != api.ErrArg {
			t.Errorf("P9.1: a salt of %d bytes: %x, %d", long, b, e)
		}
		if b, e := ctr.Counter(some(4, 1), some(long, 2), 1); len(b) != 0 || e != api.ErrArg {
			t.Errorf("P9.1: an iv of %d bytes: %x, %d", long, b, e)
		}
	}
}

// refusal is the error that Stream tells for parts of some lengths.
func refusal(k int, s int, v int, n int) api.Errno {
	switch {
	case k != 16 && k != 32 || s != 4 || v != 8 || n < 0:
		return api.ErrArg
	case n > 65536:
		return api.ErrLong
	}
	return api.OK
}

// each visits parts of right and wrong lengths, each beside each of the others.
func each(visit func(k int, s int, v int)) {
	for _, k := range []int{-1, 0, 1, 8, 15, 16, 17, 24, 31, 32, 33, 48, 64, 176, 240, 272, 65552} {
		for _, s := range []int{-1, 0, 1, 3, 4, 5, 8, 12, 16, 260} {
			for _, v := range []int{-1, 0, 1, 4, 7, 8, 9, 12, 16, 264} {
				visit(k, s, v)
			}
		}
	}
}

// TestStreamRefuses goes through parts of right and wrong lengths, beside
// numbers that are right and others: which error is told, and which bytes.
func TestStreamRefuses(t *testing.T) {
	numbers := []int{
		math.MinInt, -4294967295, -65537, -65536, -16, -1,
		0, 1, 15, 16, 17, 65535, 65536,
		65537, 65552, 131072, 1 << 31, 1<<32 + 1, math.MaxInt,
	}
	each(func(k int, s int, v int) {
		for _, n := range numbers {
			key, salt, iv := some(k, 1), some(s, 2), some(v, 3)
			want := refusal(k, s, v, n)
			if want == api.OK {
				streamed(t, "P9.2", key, salt, iv, stream(t, key, salt, iv, n))
			} else if b, e := ctr.Stream(key, salt, iv, n); len(b) != 0 || e != want {
				t.Errorf("P9.2: Stream of %d, %d and %d bytes, %d: %d bytes, %d, not %d", k, s, v, n, len(b), e, want)
			}
		}
	})
}

// TestTurnRefuses does so for bytes that are turned.
func TestTurnRefuses(t *testing.T) {
	var ins [][]byte
	for _, n := range []int{-1, 0, 1, 15, 16, 17, 65535, 65536, 65537, 65552, 131072} {
		ins = append(ins, some(n, 4))
	}
	each(func(k int, s int, v int) {
		for _, in := range ins {
			key, salt, iv := some(k, 1), some(s, 2), some(v, 3)
			want := refusal(k, s, v, len(in))
			if want == api.OK {
				turned(t, "P9.2", key, salt, iv, in, xor(in, stream(t, key, salt, iv, len(in))))
			} else if b, e := ctr.Turn(key, salt, iv, in); len(b) != 0 || e != want {
				t.Errorf("P9.2: Turn of %d, %d, %d and %d bytes: %d bytes, %d, not %d", k, s, v, len(in), len(b), e, want)
			}
		}
	})
}

// TestKeyLengths asks for keys of every length that is wrong.
func TestKeyLengths(t *testing.T) {
	salt, iv, in := some(4, 2), some(8, 3), some(20, 4)
	for k := -1; k <= 260; k++ {
		key := some(k, 1)
		want := refusal(k, 4, 8, 20)
		if want == api.OK {
			continue
		}
		if b, e := ctr.Stream(key, salt, iv, 20); len(b) != 0 || e != want {
			t.Errorf("P9.2: Stream with a key of %d bytes: %x, %d", k, b, e)
		}
		if b, e := ctr.Turn(key, salt, iv, in); len(b) != 0 || e != want {
			t.Errorf("P9.2: Turn with a key of %d bytes: %x, %d", k, b, e)
		}
	}
}

// lengths are those of a text: all of some blocks, and those around the places
// where a byte of the counter runs over, and where a text ends at the latest.
func lengths() []int {
	var list []int
	for n := range 130 {
		list = append(list, n)
	}
	for _, n := range []int{255 * 16, 256 * 16, 257 * 16, 4095 * 16} {
		list = append(list, n-1, n, n+1)
	}
	return append(list, 65535, 65536)
}

// TestStreamLengths goes through the lengths of key streams and of texts.
func TestStreamLengths(t *testing.T) {
	for _, k := range keyLengths {
		key, salt, iv, in := some(k, 11), some(4, 12), some(8, 13), some(65536, 14)
		whole := stream(t, key, salt, iv, 65536)
		for _, n := range lengths() {
			streamed(t, "P9.2", key, salt, iv, whole[:n])
			turned(t, "P9.2", key, salt, iv, in[:n], xor(in[:n], whole[:n]))
		}
	}
}

// TestStreamIsOfEncrypt holds key streams against layer 8 and Counter.
func TestStreamIsOfEncrypt(t *testing.T) {
	for _, k := range keyLengths {
		for seed := range uint32(40) {
			key, salt, iv := some(k, seed), some(4, 100+seed), some(8, 200+seed)
			var want []byte
			for n := 1; n <= 20; n++ {
				counter, e := ctr.Counter(salt, iv, n)
				if e != api.OK {
					t.Fatalf("P9.1: Counter(%x, %x, %d): %d", salt, iv, n, e)
				}
				out, _ := aes.Encrypt(key, counter)
				want = append(want, out...)
			}
			streamed(t, "P9.2", key, salt, iv, want)
			streamed(t, "P9.2", key, salt, iv, want[:16*19+int(seed)%16])
		}
	}
}

// TestAlteredParts alters each bit of a key, a salt and an iv.
func TestAlteredParts(t *testing.T) {
	for _, k := range keyLengths {
		parts, in := some(k+12, 21), some(37, 22)
		for i := -1; i < 8*len(parts); i++ {
			if i >= 0 {
				parts[i/8] ^= 1 << (i % 8)
			}
			key, salt, iv := parts[:k], parts[k:k+4], parts[k+4:]
			want := stream(t, key, salt, iv, len(in))
			streamed(t, "P9.2", key, salt, iv, want)
			turned(t, "P9.2", key, salt, iv, in, xor(in, want))
		}
	}
}

// TestPlainParts takes keys, salts, ivs and texts of one byte repeated.
func TestPlainParts(t *testing.T) {
	plain := []byte{0, 1, 0x7f, 0x80, 0xff}
	for _, k := range keyLengths {
		for _, x := range plain {
			for _, y := range plain {
				key, salt, iv := bytes.Repeat([]byte{x}, k), bytes.Repeat([]byte{y}, 4), bytes.Repeat([]byte{y}, 8)
				want := stream(t, key, salt, iv, 50)
				streamed(t, "P9.2", key, salt, iv, want)
				turned(t, "P9.2", key, salt, iv, make([]byte, 50), want)
				turned(t, "P9.2", key, salt, iv, want, make([]byte, 50))
			}
		}
	}
}

// TestLibrary holds texts against Go's own counter mode.
func TestLibrary(t *testing.T) {
	for _, k := range keyLengths {
		for seed := range uint32(300) {
			key, salt, iv, in := some(k, seed), some(4, 1000+seed), some(8, 2000+seed), some(int(seed), 3000+seed)
			c, err := cipher.NewCipher(key)
			if err != nil {
				t.Fatal(err)
			}
			want := make([]byte, len(in))
			mode.NewCTR(c, block(salt, iv, 1)).XORKeyStream(want, in)
			turned(t, "P9.2", key, salt, iv, in, want)
		}
	}
}

// TestPublished holds texts against the published ones: the test vectors 1 to 3
// and 7 to 9 of RFC 3686.
func TestPublished(t *testing.T) {
	const (
		single = "53696e676c6520626c6f636b206d7367"
		two    = "000102030405060708090a0b0c0d0e0f101112131415161718191a1b1c1d1e1f"
	)
	for _, x := range []struct{ key, salt, iv, in, out string }{
		{"ae6852f8121067cc4bf7a5765577f39e", "00000030", "0000000000000000", single,
			"e4095d4fb7a7b3792d6175a3261311b8"},
		{"7e24067817fae0d743d6ce1f32539163", "006cb6db", "c0543b59da48d90b", two,
			"5104a106168a72d9790d41ee8edad388 eb2e1efc46da57c8fce630df9141be28"},
		{"7691be035e5020a8ac6e618529f9a0dc", "00e0017b", "27777f3f4a1786f0", two + "20212223",
			"c1cf48a89f2ffdd9cf4652e9efdb72d7 4540a42bde6d7836d59a5ceaaef31053 25b2072f"},
		{"776beff2851db06f4c8a0542c8696f6c6a81af1eec96b4d37fc1d689e6c1c104", "00000060", "db5672c97aa8f0b2", single,
			"145ad01dbf824ec7560863dc71e3e0c0"},
		{"f6d66d6bd52d59bb0796365879eff886c66dd51a5b6a99744b50590c87a23884", "00faac24", "c1585ef15a43d875", two,
			"f05e231b3894612c49ee000b804eb2a9 b8306b508f839d6a5530831d9344af1c"},
		{"ff7a617ce69148e4f1726e2f43581de2aa62d9f805532edff1eed687fb54153d", "001cc5b7", "51a51d70a1c11148", two + "20212223",
			"eb6c52821d0bbbf7ce7594462aca4faa b407df866569fd07f48cc0b583d6071f 1ec0e6b8"},
	} {
		key, salt, iv, in, out := bin(t, x.key), bin(t, x.salt), bin(t, x.iv), bin(t, x.in), bin(t, x.out)
		streamed(t, "P9.2", key, salt, iv, xor(in, out))
		turned(t, "P9.2", key, salt, iv, in, out)
		turned(t, "P9.3", key, salt, iv, out, in)
		for n := range in {
			turned(t, "P9.3", key, salt, iv, in[:n], out[:n])
		}
	}
}

// TestTurnedTwice turns texts of many lengths there and back.
func TestTurnedTwice(t *testing.T) {
	for _, k := range keyLengths {
		for i, n := range lengths() {
			key, salt, iv, in := some(k, uint32(i)), some(4, uint32(i)+1), some(8, uint32(i)+2), some(n, uint32(i)+3)
			out, e := ctr.Turn(key, salt, iv, in)
			if len(out) != n || e != api.OK {
				t.Fatalf("P9.3: Turn of %d bytes: %d bytes, %d", n, len(out), e)
			}
			turned(t, "P9.3", key, salt, iv, out, in)
			if n >= 16 && bytes.Equal(out, in) {
				t.Errorf("P9.3: %d bytes are turned to themselves", n)
			}
		}
	}
}

// TestBeginnings turns the beginnings of a text, and asks for those of a key
// stream.
func TestBeginnings(t *testing.T) {
	for _, k := range keyLengths {
		key, salt, iv, in := some(k, 31), some(4, 32), some(8, 33), some(65536, 34)
		out, e := ctr.Turn(key, salt, iv, in)
		if e != api.OK {
			t.Fatalf("P9.3: Turn: %d", e)
		}
		whole, e := ctr.Stream(key, salt, iv, len(in))
		if e != api.OK {
			t.Fatalf("P9.3: Stream: %d", e)
		}
		for _, n := range lengths() {
			turned(t, "P9.3", key, salt, iv, in[:n], out[:n])
			streamed(t, "P9.3", key, salt, iv, whole[:n])
		}
	}
}

// TestPlaces turns texts that differ at some places: at each alone, to every
// value, and at several.
func TestPlaces(t *testing.T) {
	for _, k := range keyLengths {
		key, salt, iv, in := some(k, 41), some(4, 42), some(8, 43), some(50, 44)
		out, e := ctr.Turn(key, salt, iv, in)
		if e != api.OK {
			t.Fatalf("P9.3: Turn: %d", e)
		}
		for i := range in {
			for x := range 256 {
				change := make([]byte, len(in))
				change[i] = byte(x)
				turned(t, "P9.3", key, salt, iv, xor(in, change), xor(out, change))
			}
		}
		for seed := range uint32(500) {
			change := some(len(in), seed)
			for i := range change {
				if i%7 == int(seed)%7 {
					change[i] = 0
				}
			}
			turned(t, "P9.3", key, salt, iv, xor(in, change), xor(out, change))
		}
	}
}

// calls are the results of all calls for parts of right lengths, one text long
// and one empty; the parts lie in room, with more behind them.
func calls(room []byte, k int) [][]byte {
	key, salt, iv, b := room[:k], room[k:k+4], room[k+4:k+12], room[k+12:k+12+33]
	one, _ := ctr.Counter(salt, iv, 7)
	two, _ := ctr.Stream(key, salt, iv, 33)
	three, _ := ctr.Turn(key, salt, iv, b)
	four, _ := ctr.Stream(key, salt, iv, 32)
	five, _ := ctr.Turn(key, salt, iv, b[:32])
	six, _ := ctr.Stream(key, salt, iv, 0)
	seven, _ := ctr.Turn(key, salt, iv, b[:0])
	return [][]byte{one, two, three, four, five, six, seven}
}

// TestMemory looks for arguments that are altered, their spare capacity too,
// and for results that share memory with them or with each other.
func TestMemory(t *testing.T) {
	for _, k := range keyLengths {
		room := some(k+12+33+64, 51)
		kept := slices.Clone(room)
		results := append(calls(room, k), calls(room, k)...)
		ctr.Counter(room[:4], room[:8], 0)
		ctr.Counter(room[:5], room[:8], 1)
		ctr.Stream(room[:k+1], room[:4], room[:8], 5)
		ctr.Stream(room[:k], room[:4], room[:8], 65537)
		ctr.Turn(room[:k], room[:3], room[:8], room[:20])
		if !bytes.Equal(room, kept) {
			t.Fatal("P9.1, P9.2: an argument is altered")
		}
		var copies [][]byte
		for _, r := range results {
			copies = append(copies, slices.Clone(r))
		}
		clear(room)
		for i, r := range results {
			if !bytes.Equal(r, copies[i]) {
				t.Fatalf("P9.1, P9.2: result %d shares memory with an argument or with a result before it", i)
			}
			clear(r[:cap(r)])
		}
		if !bytes.Equal(room, make([]byte, len(room))) {
			t.Fatal("P9.1, P9.2: a result has room in an argument")
		}
		for i, r := range calls(slices.Clone(kept), k) {
			if !bytes.Equal(r, copies[i]) {
				t.Fatalf("P9.1, P9.2: result %d is another one later", i)
			}
		}
	}
}

// TestOneRoom passes the same bytes as all parts.
func TestOneRoom(t *testing.T) {
	for _, k := range keyLengths {
		room := some(100, 61)
		want := stream(t, room[:k], room[:4], room[:8], len(room))
		streamed(t, "P9.2", room[:k], room[:4], room[:8], want)
		turned(t, "P9.2", room[:k], room[:4], room[:8], room, xor(room, want))
		if b, e := ctr.Counter(room[:4], room[:8], 3); !bytes.Equal(b, block(room[:4], room[:8], 3)) || e != api.OK {
			t.Errorf("P9.1: Counter(%x, %x, 3) = %x, %d", room[:4], room[:8], b, e)
		}
	}
}
