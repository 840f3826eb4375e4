package mac_test

import (
	"bytes"
	"crypto/hmac"
	"crypto/sha256"
	"encoding/hex"
	"slices"
	"strings"
	"testing"

	"redoubt/api"
	"redoubt/digest"
	"redoubt/mac"
)

// bin is the bytes that a hexadecimal text tells; blanks do not count.
func bin(t *testing.T, text string) []byte {
	t.Helper()
	b, err := hex.DecodeString(strings.ReplaceAll(text, " ", ""))
	if err != nil {
		t.Fatal(err)
	}
	return b
}

// some is n bytes without a plain order; none at all if n is negative.
func some(n int, seed uint32) []byte {
	if n < 0 {
		return nil
	}
	b := make([]byte, n)
	for i := range b {
		seed = seed*1664525 + 1013904223
		b[i] = byte(seed >> 24)
	}
	return b
}

// code is the code of a message by Go's own.
func code(key []byte, message []byte) []byte {
	h := hmac.New(sha256.New, key)
	h.Write(message)
	return h.Sum(nil)
}

// lengths are those of parts.
func lengths(parts [][]byte) []int {
	var list []int
	for _, b := range parts {
		list = append(list, len(b))
	}
	return list
}

// coded fails unless Full answers a code.
func coded(t *testing.T, promise string, want []byte, key []byte, parts ...[]byte) {
	t.Helper()
	if b := mac.Full(key, parts...); !bytes.Equal(b, want) {
		t.Fatalf("%s: Full of a key of %d bytes and parts of %d bytes = %x, not %x", promise, len(key), lengths(parts), b, want)
	}
}

// tagged fails unless Tag answers a tag.
func tagged(t *testing.T, promise string, want []byte, key []byte, parts ...[]byte) {
	t.Helper()
	if b, e := mac.Tag(key, parts...); !bytes.Equal(b, want) || e != api.OK {
		t.Fatalf("%s: Tag of a key of %d bytes and parts of %d bytes = %x, %d, not %x", promise, len(key), lengths(parts), b, e, want)
	}
}

// refused fails unless Tag refuses.
func refused(t *testing.T, key []byte, parts ...[]byte) {
	t.Helper()
	if b, e := mac.Tag(key, parts...); len(b) != 0 || e != api.ErrArg {
		t.Errorf("P11.2: Tag of a key of %d bytes and parts of %d bytes = %x, %d", len(key), lengths(parts), b, e)
	}
}

// keyEdges and messageEdges are the lengths around which something changes; -1
// is none at all.
var (
	keyEdges     = []int{-1, 0, 1, 16, 20, 31, 32, 33, 63, 64, 65, 66, 95, 96, 97, 100, 127, 128, 129, 131, 256, 1000}
	messageEdges = []int{-1, 0, 1, 31, 32, 33, 54, 55, 56, 57, 63, 64, 65, 118, 119, 120, 127, 128, 129, 1000}
)

// TestFull passes keys of many lengths beside messages of many lengths.
func TestFull(t *testing.T) {
	for _, k := range keyEdges {
		for _, n := range messageEdges {
			key, message := some(k, uint32(n)+5), some(n, uint32(k)+6)
			coded(t, "P11.1", code(key, message), key, message)
		}
	}
}

// TestFullLengths goes through all lengths up to some blocks, of keys and of
// messages, and through some that are longer.
func TestFullLengths(t *testing.T) {
	long := some(1<<16+1, 11)
	for n := range 400 {
		coded(t, "P11.1", code(long[:n], long[:50]), long[:n], long[:50])
		coded(t, "P11.1", code(long[:32], long[:n]), long[:32], long[:n])
	}
	for shift := 9; shift <= 16; shift++ {
		for n := 1<<shift - 1; n <= 1<<shift+1; n++ {
			coded(t, "P11.1", code(long[:n], long[:50]), long[:n], long[:50])
			coded(t, "P11.1", code(long[:32], long[:n]), long[:32], long[:n])
		}
	}
}

// TestFullIsOfDigest holds codes against the chapter's words, with layer 10's
// digest as it answers.
func TestFullIsOfDigest(t *testing.T) {
	for _, k := range keyEdges {
		for _, n := range messageEdges {
			key, message := some(k, uint32(n)+15), some(n, uint32(k)+16)
			padded := slices.Clone(key)
			if len(key) > 64 {
				padded = digest.Of(key)
			}
			for len(padded) < 64 {
				padded = append(padded, 0)
			}
			outer, inner := make([]byte, 64), make([]byte, 64)
			for i := range 64 {
				outer[i], inner[i] = padded[i]^92, padded[i]^54
			}
			want := digest.Of(slices.Concat(outer, digest.Of(slices.Concat(inner, message))))
			coded(t, "P11.1", want, key, message)
		}
	}
}

// TestPlain takes keys and messages of one byte repeated, those of the masks
// among them.
func TestPlain(t *testing.T) {
	plain := []byte{0, 1, 54, 92, 54 ^ 92, 0x7f, 0x80, 0xff}
	for _, k := range keyEdges {
		for _, x := range plain {
			for _, y := range plain {
				key, message := bytes.Repeat([]byte{x}, max(k, 0)), bytes.Repeat([]byte{y}, 70)
				coded(t, "P11.1", code(key, message), key, message)
			}
		}
	}
}

// TestAlteredBits alters each bit of a key and of a message.
func TestAlteredBits(t *testing.T) {
	for _, k := range []int{0, 1, 32, 63, 64, 65, 100} {
		for _, n := range []int{0, 1, 64, 65} {
			both := some(k+n, uint32(k))
			seen := map[string]int{string(mac.Full(both[:k], both[k:])): 1}
			for i := range 8 * len(both) {
				both[i/8] ^= 1 << (i % 8)
				want := code(both[:k], both[k:])
				coded(t, "P11.1", want, both[:k], both[k:])
				if k == 32 {
					tagged(t, "P11.2", want[:16], both[:k], both[k:])
				}
				seen[string(want)]++
				both[i/8] ^= 1 << (i % 8)
			}
			if len(seen) != 8*len(both)+1 {
				t.Errorf("P11.1: %d altered keys and messages have %d codes", 8*len(both), len(seen)-1)
			}
		}
	}
}

// TestPublished holds codes against the published ones: the chapter's example,
// which is the first test case of RFC 4231, and the others there.
func TestPublished(t *testing.T) {
	for _, x := range []struct{ key, message, out string }{
		{strings.Repeat("\x0b", 20), "Hi There",
			"b0344c61d8db38535ca8afceaf0bf12b 881dc200c9833da726e9376c2e32cff7"},
		{"Jefe", "what do ya want for nothing?",
			"5bdcc146bf60754e6a042426089575c7 5a003f089d2739839dec58b964ec3843"},
		{strings.Repeat("\xaa", 20), strings.Repeat("\xdd", 50),
			"773ea91e36800e46854db8ebd09181a7 2959098b3ef8c122d9635514ced565fe"},
		{string(bin(t, "0102030405060708090a0b0c0d0e0f10111213141516171819")), strings.Repeat("\xcd", 50),
			"82558a389a443c0ea4cc819899f2083a 85f0faa3e578f8077a2e3ff46729665b"},
		{strings.Repeat("\xaa", 131), "Test Using Larger Than Block-Size Key - Hash Key First",
			"60e431591ee0b67f0d8a26aacbf5b77f 8e0bc6213728c5140546040f0ee37f54"},
		{strings.Repeat("\xaa", 131), "This is a test using a larger than block-size key and a larger than block-size data. The key needs to be hashed before being used by the HMAC algorithm.",
			"9b09ffa71b942fcb27635fbcd5b0e944 bfdc63644f0713938a7f51535c3a35e2"},
		{"", "",
			"b613679a0814d9ec772f95d778c35fc5 ff1697c493715653c6c712144292c5ad"},
		{"key", "The quick brown fox jumps over the lazy dog",
			"f7bc83f430538424b13298e6aa6fb143 ef4d59a14946175997479dbc2d1a3cd8"},
	} {
		coded(t, "P11.1", bin(t, x.out), []byte(x.key), []byte(x.message))
		coded(t, "P11.3", bin(t, x.out), []byte(x.key), nil, []byte(x.message), nil)
	}
	cut := mac.Full(bytes.Repeat([]byte{12}, 20), []byte("Test With Truncation"))
	if want := bin(t, "a3b6167473100ee06e0c796c2955552b"); len(cut) != 32 || !bytes.Equal(cut[:16], want) {
		t.Errorf("P11.1: the code that is published in part = %x, not %x", cut, want)
	}
}

// TestTagPublished holds tags against those of RFC 4868.
func TestTagPublished(t *testing.T) {
	for _, x := range []struct{ key, message, full, tag string }{
		{strings.Repeat("\x0b", 32), "Hi There",
			"198a607eb44bfbc69903a0f1cf2bbdc5 ba0aa3f3d9ae3c1c7a3b1696a0b68cf7", "198a607eb44bfbc69903a0f1cf2bbdc5"},
		{strings.Repeat("Jefe", 8), "what do ya want for nothing?",
			"167f928588c5cc2eef8e3093caa0e87c 9ff566a14794aa61648d81621a2a40c6", "167f928588c5cc2eef8e3093caa0e87c"},
		{strings.Repeat("\xaa", 32), strings.Repeat("\xdd", 50),
			"cdcb1220d1ecccea91e53aba3092f962 e549fe6ce9ed7fdc43191fbde45c30b0", "cdcb1220d1ecccea91e53aba3092f962"},
		{string(bin(t, "0102030405060708090a0b0c0d0e0f101112131415161718191a1b1c1d1e1f20")), strings.Repeat("\xcd", 50),
			"372efcf9b40b35c2115b1346903d2ef4 2fced46f0846e7257bb156d3d7b30d3f", "372efcf9b40b35c2115b1346903d2ef4"},
	} {
		coded(t, "P11.1", bin(t, x.full), []byte(x.key), []byte(x.message))
		tagged(t, "P11.2", bin(t, x.tag), []byte(x.key), []byte(x.message))
	}
}

// TestTagKeys passes keys of right and wrong lengths beside messages, in parts
// and without any.
func TestTagKeys(t *testing.T) {
	list := []int{256 + 32, 65536, 65536 + 32}
	for k := -1; k <= 200; k++ {
		list = append(list, k)
	}
	for _, k := range list {
		key := some(k, 21)
		if k != 32 {
			refused(t, key)
			refused(t, key, nil)
			for _, n := range messageEdges {
				refused(t, key, some(n, 22))
				refused(t, key, some(n, 22), some(n, 23))
			}
			continue
		}
		tagged(t, "P11.2", code(key, nil)[:16], key)
		for _, n := range messageEdges {
			one, two := some(n, 22), some(n, 23)
			tagged(t, "P11.2", code(key, one)[:16], key, one)
			tagged(t, "P11.2", mac.Full(key, one, two)[:16], key, one, two)
		}
	}
}

// TestTagIsOfFull passes other keys and messages, all zero ones too.
func TestTagIsOfFull(t *testing.T) {
	for seed := range uint32(300) {
		key, message := some(32, seed), some(int(seed), seed+1)
		tagged(t, "P11.2", code(key, message)[:16], key, message)
		tagged(t, "P11.2", mac.Full(key, message)[:16], key, message)
	}
	zero := make([]byte, 32)
	tagged(t, "P11.2", code(zero, nil)[:16], zero)
	tagged(t, "P11.2", code(zero, zero)[:16], zero, zero)
}

// alike fails unless Same answers as it is asked for, whichever is first.
func alike(t *testing.T, a []byte, b []byte, want bool) {
	t.Helper()
	if mac.Same(a, b) != want || mac.Same(b, a) != want {
		t.Fatalf("P11.2: Same(%x, %x) = %t, the other way round %t, not %t", a, b, mac.Same(a, b), mac.Same(b, a), want)
	}
}

// TestSameEmpty compares texts without bytes, with room behind them and without.
func TestSameEmpty(t *testing.T) {
	one, two := some(5, 31), some(5, 32)
	empty := [][]byte{nil, {}, one[:0], one[5:], two[:0], two[2:2]}
	for _, a := range empty {
		for _, b := range empty {
			alike(t, a, b, true)
		}
		alike(t, a, []byte{0}, false)
		alike(t, a, one, false)
		alike(t, a, make([]byte, 16), false)
	}
}

// TestSameLengths compares beginnings of one text, of all lengths beside each
// other, and zero bytes.
func TestSameLengths(t *testing.T) {
	text, zero := some(40, 33), make([]byte, 300)
	for n := range 40 {
		for m := range 40 {
			alike(t, text[:n], slices.Clone(text[:m]), n == m)
			alike(t, zero[:n], zero[:m], n == m)
			alike(t, text[n:], text[m:], n == m)
		}
		alike(t, zero[:n], zero[:256+n], false)
		alike(t, text[:n], append(slices.Clone(text[:n]), 0), false)
		alike(t, text[:n], append([]byte{0}, text[:n]...), false)
	}
}

// TestSamePlaces compares texts that differ at one place alone, in each way, and
// at two places.
func TestSamePlaces(t *testing.T) {
	for _, n := range []int{1, 2, 3, 15, 16, 17, 32, 33, 64, 65, 100} {
		a := some(n, 34)
		b := slices.Clone(a)
		alike(t, a, b, true)
		for i := range n {
			for x := range 256 {
				b[i] = a[i] ^ byte(x)
				alike(t, a, b, x == 0)
			}
			b[i] = a[i]
		}
		for i := range n {
			for j := range i {
				for bit := range 8 {
					b[i], b[j] = a[i]^1<<bit, a[j]^1<<bit
					alike(t, a, b, false)
					b[i], b[j] = a[i]+1<<bit, a[j]-1<<bit
					alike(t, a, b, false)
					b[i], b[j] = a[i], a[j]
				}
			}
		}
		alike(t, a, b, true)
	}
}

// TestSameMany compares texts that differ at many places in one way: what
// differs is so much that it may run over, or cancel.
func TestSameMany(t *testing.T) {
	for _, n := range []int{1, 2, 3, 4, 16, 128, 255, 256, 257, 512, 1024, 65536} {
		for x := range 256 {
			alike(t, make([]byte, n), bytes.Repeat([]byte{byte(x)}, n), x == 0)
		}
	}
	alike(t, some(65536, 35), some(65536, 35), true)
	a := some(65536, 35)
	for _, i := range []int{0, 1, 255, 256, 32767, 32768, 65534, 65535} {
		b := slices.Clone(a)
		b[i] ^= 128
		alike(t, a, b, false)
	}
}

// TestSameOrder compares texts of the same bytes in another order.
func TestSameOrder(t *testing.T) {
	a := bin(t, "000102030405060708090a0b0c0d0e0f")
	b := slices.Clone(a)
	slices.Reverse(b)
	alike(t, a, b, false)
	for i := range a {
		alike(t, a, slices.Concat(a[i:], a[:i]), i == 0)
	}
}

// TestSameRoom compares texts that lie in one room, with other bytes behind
// them, and a text with itself.
func TestSameRoom(t *testing.T) {
	room := bytes.Repeat([]byte("abcd"), 10)
	alike(t, room, room, true)
	alike(t, room[:8], room[4:12], true)
	alike(t, room[:8], room[3:11], false)
	alike(t, room[:3], []byte("abcz")[:3], true)
	alike(t, room[:4], []byte("abcz"), false)
}

// TestSameTags compares tags and codes.
func TestSameTags(t *testing.T) {
	key, message := some(32, 36), some(100, 37)
	tag, _ := mac.Tag(key, message)
	again, _ := mac.Tag(key, message[:30], message[30:])
	alike(t, tag, again, true)
	alike(t, tag, mac.Full(key, message)[:16], true)
	alike(t, tag, mac.Full(key, message), false)
	other, _ := mac.Tag(key, message[:99])
	alike(t, tag, other, false)
}

// TestNoParts passes no parts, and parts without bytes.
func TestNoParts(t *testing.T) {
	for _, k := range keyEdges {
		key := some(k, 41)
		want := code(key, nil)
		coded(t, "P11.1", want, key)
		coded(t, "P11.3", want, key, [][]byte{}...)
		coded(t, "P11.3", want, key, nil)
		coded(t, "P11.3", want, key, []byte{})
		coded(t, "P11.3", want, key, nil, []byte{}, nil)
		coded(t, "P11.3", want, key, make([][]byte, 1000)...)
	}
}

// TestTwoPlaces parts a message at each two places.
func TestTwoPlaces(t *testing.T) {
	message := some(70, 42)
	for _, k := range []int{0, 32, 65} {
		key := some(k, 43)
		want := code(key, message)
		for i := range len(message) + 1 {
			for j := i; j <= len(message); j++ {
				coded(t, "P11.3", want, key, message[:i], message[i:j], message[j:])
				if k == 32 {
					tagged(t, "P11.3", want[:16], key, message[:i], message[i:j], message[j:])
				}
			}
		}
	}
}

// TestEvenParts parts messages into parts of one length, with empty ones between
// and without.
func TestEvenParts(t *testing.T) {
	key := some(32, 44)
	for _, n := range []int{1, 63, 64, 65, 128, 500} {
		message := some(n, 45)
		want := code(key, message)
		for size := 1; size <= min(n, 130); size++ {
			parts := slices.Collect(slices.Chunk(message, size))
			coded(t, "P11.3", want, key, parts...)
			var more [][]byte
			for _, b := range parts {
				more = append(more, nil, b, []byte{})
			}
			coded(t, "P11.3", want, key, more...)
			tagged(t, "P11.3", want[:16], key, more...)
		}
	}
}

// TestManyParts parts messages without a plain order.
func TestManyParts(t *testing.T) {
	for seed := range uint32(300) {
		key, message := some(int(seed)%130, seed), some(int(seed)*3, seed+1)
		var parts [][]byte
		rest := message
		for _, x := range some(40, 1000+seed) {
			n := min(int(x)%70, len(rest))
			parts = append(parts, rest[:n])
			rest = rest[n:]
		}
		coded(t, "P11.3", code(key, message), key, append(parts, rest)...)
	}
}

// TestOtherBorder moves bytes from a key to the message: that is another code.
func TestOtherBorder(t *testing.T) {
	both := some(200, 46)
	seen := map[string]int{}
	for k := range both {
		seen[string(mac.Full(both[:k], both[k:]))]++
	}
	if len(seen) != len(both) {
		t.Errorf("P11.1: %d keys and messages have %d codes", len(both), len(seen))
	}
}

// TestZerosBehindKey appends zero bytes to keys: up to 64 bytes in all they
// change nothing, beyond that they do.
func TestZerosBehindKey(t *testing.T) {
	message := some(50, 51)
	for k := range 130 {
		key := some(k, 52)
		want := mac.Full(key, message)
		for more := 1; k+more <= 140; more++ {
			longer := append(slices.Clone(key), make([]byte, more)...)
			if len(longer) <= 64 {
				coded(t, "P11.3", want, longer, message)
				coded(t, "P11.3", want, longer, message[:7], message[7:])
				continue
			}
			coded(t, "P11.1", code(longer, message), longer, message)
			if bytes.Equal(mac.Full(longer, message), want) {
				t.Errorf("P11.1: a key of %d bytes with %d zero bytes behind it has the same code", k, more)
			}
		}
	}
}

// TestZerosBeforeKey puts zero bytes elsewhere in keys: there they change a
// code.
func TestZerosBeforeKey(t *testing.T) {
	key, message := bytes.Repeat([]byte{7}, 20), some(50, 53)
	want := mac.Full(key, message)
	for i := range key {
		other := slices.Insert(slices.Clone(key), i, 0)
		coded(t, "P11.1", code(other, message), other, message)
		if bytes.Equal(mac.Full(other, message), want) {
			t.Errorf("P11.1: a key with a zero byte at place %d has the same code", i)
		}
	}
}

// TestLongKeyIsDigest passes a digest in place of the key it is of: that is the
// same for keys of more than 64 bytes alone.
func TestLongKeyIsDigest(t *testing.T) {
	message := some(50, 54)
	for k := range 140 {
		key := some(k, 55)
		same := bytes.Equal(mac.Full(key, message), mac.Full(digest.Of(key), message))
		if same != (k > 64) {
			t.Errorf("P11.1: a key of %d bytes and its digest have one code: %t", k, same)
		}
	}
}

// TestMemory looks for arguments that are altered, their spare capacity too,
// and for results that share memory with them or with each other.
func TestMemory(t *testing.T) {
	for _, k := range []int{0, 1, 31, 32, 33, 63, 64, 65, 100} {
		room, list := some(400, 61), make([][]byte, 0, 10)
		list = append(list, room[100:110], nil, room[110:250], room[3:77], room[250:260], room[260:300])
		parts := list[:4]
		kept, keptList := slices.Clone(room), slices.Clone(list)
		message := slices.Concat(parts...)
		full := mac.Full(room[:k], parts...)
		tag, _ := mac.Tag(room[:k], parts...)
		again := mac.Full(room[:k], parts...)
		alike(t, room[:k], room[200:200+k], k == 0)
		alike(t, room[:k], room[:k], true)
		if !bytes.Equal(room, kept) {
			t.Fatal("P11.1, P11.2: an argument is altered")
		}
		for i := range keptList {
			if len(list[i]) != len(keptList[i]) || len(list[i]) > 0 && &list[i][0] != &keptList[i][0] {
				t.Fatal("P11.1, P11.2: the list of the parts is altered")
			}
		}
		if list[:7][6] != nil {
			t.Fatal("P11.1, P11.2: the room behind the list of the parts is altered")
		}
		clear(room)
		clear(list)
		clear(again[:cap(again)])
		if want := code(kept[:k], message); !bytes.Equal(full, want) || k == 32 && !bytes.Equal(tag, want[:16]) {
			t.Error("P11.1, P11.2: a result shares memory with an argument or with another result")
		}
		clear(full[:cap(full)])
		clear(tag[:cap(tag)])
		if !bytes.Equal(room, make([]byte, len(room))) {
			t.Error("P11.1, P11.2: a result has room in an argument")
		}
	}
}

// TestResultsAreNew writes over results, with the room behind them, and asks
// again.
func TestResultsAreNew(t *testing.T) {
	key, message := some(32, 64), some(70, 65)
	want := code(key, message)
	for range 3 {
		coded(t, "P11.1", want, key, message)
		tagged(t, "P11.2", want[:16], key, message)
		full := mac.Full(key, message)
		tag, _ := mac.Tag(key, message)
		for _, b := range [][]byte{full[:cap(full)], tag[:cap(tag)]} {
			for i := range b {
				b[i] = 0xee
			}
		}
	}
}

// TestOneRoom passes the same bytes as the key and as all parts.
func TestOneRoom(t *testing.T) {
	room := some(100, 66)
	for _, k := range []int{1, 32, 64, 65, 100} {
		key := room[:k]
		coded(t, "P11.1", code(key, slices.Concat(key, key, key)), key, key, key, key)
		coded(t, "P11.1", code(key, slices.Concat(room, room[5:])), key, room, room[5:])
	}
}
