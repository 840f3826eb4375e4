package aes_test

import (
	"bytes"
	cipher "crypto/aes"
	"encoding/hex"
	"math/bits"
	"slices"
	"strings"
	"testing"

	"redoubt/aes"
	"redoubt/api"
)

// lengths are those of the keys that are taken, and of their schedules.
var lengths = map[int]int{16: 176, 32: 240}

// bin is the bytes that a hexadecimal text tells; blanks do not count.
func bin(t *testing.T, text string) []byte {
	t.Helper()
	b, err := hex.DecodeString(strings.ReplaceAll(text, " ", ""))
	if err != nil {
		t.Fatal(err)
	}
	return b
}

// count is n bytes: from, from + step, and so on.
func count(n int, from byte, step byte) []byte {
	b := make([]byte, n)
	for i := range b {
		b[i] = from + byte(i)*step
	}
	return b
}

// some is n bytes without a plain order.
func some(n int, seed uint32) []byte {
	b := make([]byte, n)
	for i := range b {
		seed = seed*1664525 + 1013904223
		b[i] = byte(seed >> 24)
	}
	return b
}

// product multiplies two polynomials as they are and divides by that of the
// field afterwards.
func product(x byte, y byte) byte {
	n := 0
	for k := range 8 {
		if y>>k&1 == 1 {
			n ^= int(x) << k
		}
	}
	for k := 15; k >= 8; k-- {
		if n>>k&1 == 1 {
			n ^= 0x11b << (k - 8)
		}
	}
	return byte(n)
}

// boxOf searches the inverse of a byte, and turns it bit by bit.
func boxOf(x byte) byte {
	inverse := byte(0)
	for b := range 256 {
		if product(x, byte(b)) == 1 {
			inverse = byte(b)
		}
	}
	out := byte(0)
	for k := range 8 {
		n := 0
		for turn := range 5 {
			n += int(inverse >> ((k + 8 - turn) % 8) & 1)
		}
		out |= byte(n%2) << k
	}
	return out ^ 0x63
}

// boxTable is boxOf of every byte, worked out once.
var boxTable = func() (table [256]byte) {
	for x := range table {
		table[x] = boxOf(byte(x))
	}
	return table
}()

// constants are those of the rounds, as they are published.
var constants = []byte{0x01, 0x02, 0x04, 0x08, 0x10, 0x20, 0x40, 0x80, 0x1b, 0x36}

// schedule makes the words of a schedule from a key, as numbers.
func schedule(key []byte) []byte {
	number := func(b []byte) uint32 {
		return uint32(b[0])<<24 | uint32(b[1])<<16 | uint32(b[2])<<8 | uint32(b[3])
	}
	boxed := func(w uint32) uint32 {
		return number([]byte{boxTable[w>>24], boxTable[w>>16&255], boxTable[w>>8&255], boxTable[w&255]})
	}
	nk := len(key) / 4
	var words []uint32
	for i := range nk {
		words = append(words, number(key[4*i:]))
	}
	for i := nk; i < 4*(nk+7); i++ {
		w := words[i-1]
		if i%nk == 0 {
			w = boxed(bits.RotateLeft32(w, 8)) ^ uint32(constants[i/nk-1])<<24
		} else if nk == 8 && i%8 == 4 {
			w = boxed(w)
		}
		words = append(words, words[i-nk]^w)
	}
	var b []byte
	for _, w := range words {
		b = append(b, byte(w>>24), byte(w>>16), byte(w>>8), byte(w))
	}
	return b
}

// want is the encryption of a block under a schedule: a state of four rows.
func want(keys []byte, in []byte) []byte {
	var state [4][4]byte // rows, columns
	add := func(group []byte) {
		for i, k := range group {
			state[i%4][i/4] ^= k
		}
	}
	add(in)
	add(keys[:16])
	rounds := len(keys)/16 - 1
	for n := 1; n <= rounds; n++ {
		for r := range 4 {
			for c := range 4 {
				state[r][c] = boxTable[state[r][c]]
			}
			state[r] = [4]byte(slices.Concat(state[r][r:], state[r][:r]))
		}
		for c := 0; c < 4 && n < rounds; c++ {
			a := [4]byte{state[0][c], state[1][c], state[2][c], state[3][c]}
			state[0][c] = product(2, a[0]) ^ product(3, a[1]) ^ a[2] ^ a[3]
			state[1][c] = a[0] ^ product(2, a[1]) ^ product(3, a[2]) ^ a[3]
			state[2][c] = a[0] ^ a[1] ^ product(2, a[2]) ^ product(3, a[3])
			state[3][c] = product(3, a[0]) ^ a[1] ^ a[2] ^ product(2, a[3])
		}
		add(keys[16*n : 16*n+16])
	}
	out := make([]byte, 16)
	for i := range out {
		out[i] = state[i%4][i/4]
	}
	return out
}

// scheduled fails unless Keys answers a schedule.
func scheduled(t *testing.T, key []byte, want []byte) {
	t.Helper()
	if keys, e := aes.Keys(key); !bytes.Equal(keys, want) || e != api.OK {
		t.Fatalf("P8.2: Keys(%x) = %x, %d, not %x", key, keys, e, want)
	}
}

// blocked fails unless Block answers an encryption.
func blocked(t *testing.T, promise string, keys []byte, in []byte, want []byte) {
	t.Helper()
	if out, e := aes.Block(keys, in); !bytes.Equal(out, want) || e != api.OK {
		t.Fatalf("%s: Block(%x, %x) = %x, %d, not %x", promise, keys, in, out, e, want)
	}
}

// encrypted fails unless Encrypt answers an encryption.
func encrypted(t *testing.T, promise string, key []byte, in []byte, want []byte) {
	t.Helper()
	if out, e := aes.Encrypt(key, in); !bytes.Equal(out, want) || e != api.OK {
		t.Fatalf("%s: Encrypt(%x, %x) = %x, %d, not %x", promise, key, in, out, e, want)
	}
}

// TestTimes multiplies every two bytes.
func TestTimes(t *testing.T) {
	for _, x := range [][3]byte{{0x57, 0x83, 0xc1}, {0x57, 0x13, 0xfe}, {0x57, 0x02, 0xae}, {0x80, 0x02, 0x1b}, {0x53, 0xca, 0x01}, {0xff, 0x01, 0xff}, {0, 0xff, 0}} {
		if p := aes.Times(x[0], x[1]); p != x[2] {
			t.Errorf("P8.1: Times(%x, %x) = %x, not %x", x[0], x[1], p, x[2])
		}
	}
	for x := range 256 {
		for y := range 256 {
			if p := aes.Times(byte(x), byte(y)); p != product(byte(x), byte(y)) {
				t.Fatalf("P8.1: Times(%x, %x) = %x, not %x", x, y, p, product(byte(x), byte(y)))
			}
		}
	}
}

// TestBox asks for every byte, and holds the first row and the last one against
// the published ones.
func TestBox(t *testing.T) {
	for x, want := range bin(t, "63 7c 77 7b f2 6b 6f c5 30 01 67 2b fe d7 ab 76") {
		if b := aes.Box(byte(x)); b != want {
			t.Errorf("P8.1: Box(%x) = %x, not %x", x, b, want)
		}
	}
	for x, want := range bin(t, "8c a1 89 0d bf e6 42 68 41 99 2d 0f b0 54 bb 16") {
		if b := aes.Box(byte(0xf0 + x)); b != want {
			t.Errorf("P8.1: Box(%x) = %x, not %x", 0xf0+x, b, want)
		}
	}
	if b := aes.Box(0x53); b != 0xed {
		t.Errorf("P8.1: Box(53) = %x", b)
	}
	seen := map[byte]bool{}
	for x := range 256 {
		b := aes.Box(byte(x))
		if b != boxOf(byte(x)) || b != aes.Box(byte(x)) {
			t.Errorf("P8.1: Box(%x) = %x, not %x", x, b, boxOf(byte(x)))
		}
		seen[b] = true
	}
	if len(seen) != 256 {
		t.Errorf("P8.1: Box has %d values", len(seen))
	}
}

// TestKeys holds schedules against the published ones and against those of the
// oracle.
func TestKeys(t *testing.T) {
	key := bin(t, "2b7e1516 28aed2a6 abf71588 09cf4f3c")
	scheduled(t, key, bin(t, `2b7e1516 28aed2a6 abf71588 09cf4f3c a0fafe17 88542cb1 23a33939 2a6c7605 f2c295f2 7a96b943 5935807a 7359f67f`+
		`3d80477d 4716fe3e 1e237e44 6d7a883b ef44a541 a8525b7f b671253b db0bad00 d4d1c6f8 7c839d87 caf2b8bc 11f915bc`+
		`6d88a37a 110b3efd dbf98641 ca0093fd 4e54f70e 5f5fc9f3 84a64fb2 4ea6dc4f ead27321 b58dbad2 312bf560 7f8d292f`+
		`ac7766f3 19fadc21 28d12941 575c006e d014f9a8 c9ee2589 e13f0cc8 b6630ca6`))
	key = bin(t, "603deb10 15ca71be 2b73aef0 857d7781 1f352c07 3b6108d7 2d9810a3 0914dff4")
	scheduled(t, key, bin(t, `603deb10 15ca71be 2b73aef0 857d7781 1f352c07 3b6108d7 2d9810a3 0914dff4 9ba35411 8e6925af a51a8b5f 2067fcde`+
		`a8b09c1a 93d194cd be49846e b75d5b9a d59aecb8 5bf3c917 fee94248 de8ebe96 b5a9328a 2678a647 98312229 2f6c79b3`+
		`812c81ad dadf48ba 24360af2 fab8b464 98c5bfc9 bebd198e 268c3ba7 09e04214 68007bac b2df3316 96e939e4 6c518d80`+
		`c814e204 76a9fb8a 5025c02d 59c58239 de136967 6ccc5a71 fa256395 9674ee15 5886ca5d 2e2f31d7 7e0af1fa 27cf73c3`+
		`749c47ab 18501dda e2757e4f 7401905a cafaaae3 e4d59b34 9adf6ace bd10190d fe4890d1 e6188d0b 046df344 706c631e`))
	for n, want := range lengths {
		for seed := range 200 {
			key := some(n, uint32(seed))
			if got := schedule(key); len(got) != want {
				t.Fatal("the oracle is wrong")
			}
			scheduled(t, key, schedule(key))
		}
		for _, b := range []byte{0, 1, 0x52, 0x7f, 0x80, 0xff} {
			key := bytes.Repeat([]byte{b}, n)
			scheduled(t, key, schedule(key))
		}
		key := some(n, 99)
		for i := range 8 * n {
			key[i/8] ^= 1 << (i % 8)
			scheduled(t, key, schedule(key))
		}
	}
}

// TestKeyLengths asks for keys of every length, and for none at all.
func TestKeyLengths(t *testing.T) {
	in := count(16, 0, 0x11)
	refused := func(key []byte) {
		t.Helper()
		if keys, e := aes.Keys(key); len(keys) != 0 || e != api.ErrArg {
			t.Errorf("P8.2: a key of %d bytes: %x, %d", len(key), keys, e)
		}
		if out, e := aes.Encrypt(key, in); len(out) != 0 || e != api.ErrArg {
			t.Errorf("P8.3: a key of %d bytes: %x, %d", len(key), out, e)
		}
	}
	refused(nil)
	for n := range 260 {
		key := count(n, 0, 1)
		if lengths[n] == 0 {
			refused(key)
			continue
		}
		scheduled(t, key, schedule(key))
		encrypted(t, "P8.3", key, in, want(schedule(key), in))
	}
	refused(make([]byte, 65536+16))
}

// TestBlockLengths goes through every length of a schedule and some of a block.
func TestBlockLengths(t *testing.T) {
	blocks := [][]byte{nil}
	for _, n := range []int{0, 1, 8, 15, 16, 17, 24, 31, 32, 33, 48, 176, 240, 272, 65552} {
		blocks = append(blocks, count(n, 3, 5))
	}
	for n := -1; n <= 260; n++ {
		var keys []byte
		if n >= 0 {
			keys = some(n, 7)
		}
		for _, in := range blocks {
			if (n == 176 || n == 240) && len(in) == 16 {
				blocked(t, "P8.3", keys, in, want(keys, in))
			} else if out, e := aes.Block(keys, in); len(out) != 0 || e != api.ErrArg {
				t.Errorf("P8.3: Block of %d and %d bytes: %x, %d", n, len(in), out, e)
			}
		}
	}
}

// TestEncryptLengths goes through blocks of every length, beside keys that are
// right and others.
func TestEncryptLengths(t *testing.T) {
	for _, k := range []int{0, 15, 16, 17, 24, 31, 32, 33, 176, 240} {
		key := some(k, 5)
		for n := -1; n <= 65; n++ {
			var in []byte
			if n >= 0 {
				in = some(n, 6)
			}
			if lengths[k] != 0 && n == 16 {
				encrypted(t, "P8.3", key, in, want(schedule(key), in))
			} else if out, e := aes.Encrypt(key, in); len(out) != 0 || e != api.ErrArg {
				t.Errorf("P8.3: Encrypt of %d and %d bytes: %x, %d", k, n, out, e)
			}
		}
	}
}

// TestBlockAnySchedule takes schedules that no key has.
func TestBlockAnySchedule(t *testing.T) {
	for _, n := range lengths {
		for _, b := range []byte{0, 1, 0x63, 0x80, 0xff} {
			keys := bytes.Repeat([]byte{b}, n)
			for _, c := range []byte{0, 1, 0x52, 0x80, 0xff} {
				in := bytes.Repeat([]byte{c}, 16)
				blocked(t, "P8.3", keys, in, want(keys, in))
			}
		}
		for seed := range 300 {
			keys, in := some(n, uint32(seed)), some(16, uint32(1000+seed))
			blocked(t, "P8.3", keys, in, want(keys, in))
		}
		keys, in := some(n, 1), some(16, 2)
		for i := range 8 * n {
			keys[i/8] ^= 1 << (i % 8)
			blocked(t, "P8.3", keys, in, want(keys, in))
		}
		for i := range 8 * 16 {
			in[i/8] ^= 1 << (i % 8)
			blocked(t, "P8.3", keys, in, want(keys, in))
		}
	}
}

// TestEncryptIsBlockOfKeys holds the three calls together.
func TestEncryptIsBlockOfKeys(t *testing.T) {
	for n := range lengths {
		for seed := range 100 {
			key, in := some(n, uint32(seed)), some(16, uint32(500+seed))
			keys, _ := aes.Keys(key)
			out, e := aes.Block(keys, in)
			if e != api.OK {
				t.Fatalf("P8.3: Block under the schedule of %x: %d", key, e)
			}
			encrypted(t, "P8.3", key, in, out)
		}
	}
}

// TestPublished holds encryptions against the published ones.
func TestPublished(t *testing.T) {
	const (
		short = "2b7e151628aed2a6abf7158809cf4f3c"
		long  = "603deb1015ca71be2b73aef0857d77811f352c073b6108d72d9810a30914dff4"
	)
	zero := strings.Repeat("00", 16)
	for _, x := range [][3]string{
		{"000102030405060708090a0b0c0d0e0f", "00112233445566778899aabbccddeeff", "69c4e0d86a7b0430d8cdb78070b4c55a"},
		{"000102030405060708090a0b0c0d0e0f101112131415161718191a1b1c1d1e1f", "00112233445566778899aabbccddeeff", "8ea2b7ca516745bfeafc49904b496089"},
		{short, "3243f6a8885a308d313198a2e0370734", "3925841d02dc09fbdc118597196a0b32"},
		{short, "6bc1bee22e409f96e93d7e117393172a", "3ad77bb40d7a3660a89ecaf32466ef97"},
		{short, "ae2d8a571e03ac9c9eb76fac45af8e51", "f5d3d58503b9699de785895a96fdbaaf"},
		{short, "30c81c46a35ce411e5fbc1191a0a52ef", "43b1cd7f598ece23881b00e3ed030688"},
		{short, "f69f2445df4f9b17ad2b417be66c3710", "7b0c785e27e8ad3f8223207104725dd4"},
		{long, "6bc1bee22e409f96e93d7e117393172a", "f3eed1bdb5d2a03c064b5a7e3db181f8"},
		{long, "ae2d8a571e03ac9c9eb76fac45af8e51", "591ccb10d410ed26dc5ba74a31362870"},
		{long, "30c81c46a35ce411e5fbc1191a0a52ef", "b6ed21b99ca6f4f9f153e7b1beafed1d"},
		{long, "f69f2445df4f9b17ad2b417be66c3710", "23304b7a39f9f3ff067d8d8f9e24ecc7"},
		{zero, zero, "66e94bd4ef8a2c3b884cfa59ca342b2e"},
		{zero + zero, zero, "dc95c078a2408989ad48a21492842087"},
	} {
		encrypted(t, "P8.4", bin(t, x[0]), bin(t, x[1]), bin(t, x[2]))
	}
}

// TestLibrary holds encryptions against those of Go's own library.
func TestLibrary(t *testing.T) {
	for n := range lengths {
		for seed := range 500 {
			key, in := some(n, uint32(seed)), some(16, uint32(seed)<<8+1)
			c, err := cipher.NewCipher(key)
			if err != nil {
				t.Fatal(err)
			}
			want := make([]byte, 16)
			c.Encrypt(want, in)
			encrypted(t, "P8.4", key, in, want)
		}
	}
}

// TestDifferent asks for blocks that are like each other, under one key; some
// differ in one bit or byte alone.
func TestDifferent(t *testing.T) {
	for n := range lengths {
		keys, _ := aes.Keys(some(n, 77))
		from := map[string]string{}
		differs := func(in []byte) {
			t.Helper()
			out, e := aes.Block(keys, in)
			if len(out) != 16 || e != api.OK {
				t.Fatalf("P8.4: Block(%x) = %x, %d", in, out, e)
			}
			if other, ok := from[string(out)]; ok && other != string(in) {
				t.Fatalf("P8.4: %x and %x have the result %x", other, in, out)
			}
			from[string(out)] = string(in)
		}
		for i := range 16 {
			for x := range 256 {
				in := some(16, 3)
				in[i] = byte(x)
				differs(in)
				in = make([]byte, 16)
				in[i] = byte(x)
				differs(in)
			}
		}
		for x := range 4096 {
			in := make([]byte, 16)
			in[14], in[15] = byte(x>>8), byte(x)
			differs(in)
		}
	}
}

// TestMemory looks for arguments that are altered, and for results that share
// memory with them or with each other.
func TestMemory(t *testing.T) {
	for n, long := range lengths {
		room := some(long+n+16+64, 9)
		kept := slices.Clone(room)
		key, in := room[:n], room[n:n+16]
		keys, _ := aes.Keys(key)
		schedules := slices.Clone(keys)
		wide := room[n+16 : n+16+long] // taken as a schedule, with bytes behind it
		var results [][]byte
		for range 2 {
			again, _ := aes.Keys(key)
			one, _ := aes.Encrypt(key, in)
			two, _ := aes.Block(keys, in)
			three, _ := aes.Block(wide, in)
			results = append(results, again, one, two, three)
		}
		aes.Keys(room[:n+1])
		aes.Block(wide, room[:15])
		aes.Encrypt(key, room[:17])
		if !bytes.Equal(room, kept) || !bytes.Equal(keys, schedules) {
			t.Fatal("P8.2, P8.3: an argument is altered")
		}
		var copies [][]byte
		for _, r := range results {
			copies = append(copies, slices.Clone(r))
		}
		clear(room)
		clear(keys)
		for i, r := range results {
			if !bytes.Equal(r, copies[i]) {
				t.Fatalf("P8.2, P8.3: result %d shares memory with an argument or with a result before it", i)
			}
			clear(r[:cap(r)])
		}
		if !bytes.Equal(room, make([]byte, len(room))) {
			t.Fatal("P8.2, P8.3: a result has room in an argument")
		}
		scheduled(t, kept[:n], schedules)
	}
}
