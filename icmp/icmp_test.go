package icmp_test

import (
	"bytes"
	"encoding/binary"
	"math"
	"reflect"
	"slices"
	"strings"
	"testing"

	"redoubt/api"
	"redoubt/icmp"
	"redoubt/inet"
)

// pair is the addresses that a message goes between.
type pair struct{ src, dst string }

// pairs are of both versions, with many different words and with equal ones.
var pairs = []pair{
	{"\x0a\x00\x00\x01", "\x0a\x00\x00\x02"},
	{"\xc0\xa8\xfe\x63", "\x7f\x13\x80\xf1"},
	{"\x00\x00\x00\x00", "\x00\x00\x00\x00"},
	{"\xff\xff\xff\xff", "\xff\xff\xff\xff"},
	{"\x20\x01\x0d\xb8\x00\x00\x00\x00\x00\x00\x00\x00\x00\x00\x00\x01", "\xfe\x80\x01\x02\x03\x04\x05\x06\x07\x08\x09\x0a\x0b\x0c\x0d\x0e"},
	{"\xfd\x12\x34\x56\x78\x9a\xbc\xde\xf0\x11\x22\x33\x44\x55\x66\x77", "\xff\x02\x00\x00\x00\x00\x00\x00\x00\x00\x00\x01\xff\x00\x11\x22"},
	{strings.Repeat("\x00", 16), strings.Repeat("\x00", 16)},
	{strings.Repeat("\xff", 16), strings.Repeat("\xff", 16)},
}

// unlike are addresses that are not of the same version.
var unlike = []pair{{}, {pairs[0].src, pairs[4].dst}, {pairs[4].src, pairs[0].dst}, {"12345", "12345"}, {"1234", ""}, {"", "1234"}, {pairs[4].src, ""}, {"", pairs[4].src}}

// versions are not wide and wide.
var versions = []bool{false, true}

// sample has another value in each field and in each of their bytes.
var sample = api.Icmp{Type: 0x12, Code: 0x34, Rest: 0x9abcdef0, Data: []byte("what it is about")}

// total adds the big-endian words of b as plain numbers.
func total(b []byte) int {
	n := 0
	for i, x := range b {
		n += int(x) << (8 * (1 - i%2))
	}
	return n
}

// whole is the total of all that a checksum is for: of version 6 the
// pseudo-header too.
func whole(b []byte, a pair) int {
	if len(a.src) == 4 {
		return total(b)
	}
	return total([]byte(a.src)) + total([]byte(a.dst)) + 58 + len(b)>>16 + len(b)&0xffff + total(b)
}

// sealed is an encoding with its checksum put into it: told by one total of all
// words, not by steps. A total of 0 has the checksum 65535.
func sealed(b []byte, a pair) []byte {
	b = slices.Clone(b)
	binary.BigEndian.PutUint16(b[2:], 0)
	n := whole(b, a)
	sum := n % 65535
	if sum == 0 && n > 0 {
		sum = 65535
	}
	binary.BigEndian.PutUint16(b[2:], uint16(65535-sum))
	return b
}

// want is the encoding of a message.
func want(m api.Icmp, a pair) []byte {
	b := []byte{byte(m.Type), byte(m.Code), 0, 0}
	b = binary.BigEndian.AppendUint32(b, uint32(m.Rest))
	return sealed(append(b, m.Data...), a)
}

// told is what Parse has to answer.
func told(b []byte, a pair) (api.Icmp, api.Errno) {
	if n := len(a.src); n != len(a.dst) || n != 4 && n != 16 {
		return api.Icmp{}, api.ErrArg
	}
	if len(b) < 8 {
		return api.Icmp{}, api.ErrMore
	}
	if len(b) > 65535 {
		return api.Icmp{}, api.ErrLong
	}
	if n := whole(b, a); n == 0 || n%65535 != 0 {
		return api.Icmp{}, api.ErrSum
	}
	return api.Icmp{Type: int(b[0]), Code: int(b[1]), Rest: int(binary.BigEndian.Uint32(b[4:])), Data: slices.Clone(b[8:])}, api.OK
}

// same reports whether two messages are equal; of no data there may be nil or
// an empty slice.
func same(m, n api.Icmp) bool {
	return m.Type == n.Type && m.Code == n.Code && m.Rest == n.Rest && bytes.Equal(m.Data, n.Data)
}

// taken fails unless Bytes answers the encoding of a message, and Parse the
// message of that.
func taken(t *testing.T, what string, m api.Icmp, a pair) {
	t.Helper()
	b, e := icmp.Bytes(m, a.src, a.dst)
	if !bytes.Equal(b, want(m, a)) || e != api.OK {
		t.Fatalf("P7.1: Bytes, %s: %d bytes %.100x, %d, not %.100x", what, len(b), b, e, want(m, a))
	}
	if n, e := icmp.Parse(want(m, a), a.src, a.dst); !same(m, n) || e != api.OK {
		t.Fatalf("P7.1: Parse, %s: %.200v, %d", what, n, e)
	}
	if n, e := icmp.Parse(b, a.src, a.dst); !same(m, n) || e != api.OK {
		t.Fatalf("P7.3: %s: %.200v, %d", what, n, e)
	}
}

// noBytes fails unless Bytes answers an error, and no bytes.
func noBytes(t *testing.T, what string, m api.Icmp, a pair, want api.Errno) {
	t.Helper()
	if b, e := icmp.Bytes(m, a.src, a.dst); len(b) != 0 || e != want {
		t.Fatalf("P7.1: Bytes, %s: %d bytes, %d, not %d", what, len(b), e, want)
	}
}

// noMessage fails unless Parse answers an error, and nothing else.
func noMessage(t *testing.T, what string, b []byte, a pair, want api.Errno) {
	t.Helper()
	if m, e := icmp.Parse(b, a.src, a.dst); !reflect.DeepEqual(m, api.Icmp{}) || e != want {
		t.Fatalf("P7.1: Parse, %s: %.200v, %d, not %d: %.100x", what, m, e, want, b)
	}
}

// parses fails unless Parse answers what told tells, and Bytes then the same
// bytes again, with the checksum that is computed.
func parses(t *testing.T, what string, b []byte, a pair) {
	t.Helper()
	m, e := told(b, a)
	if e != api.OK {
		noMessage(t, what, b, a, e)
		return
	}
	n, e := icmp.Parse(b, a.src, a.dst)
	if e != api.OK || !same(m, n) {
		t.Fatalf("P7.1: Parse, %s: %.200v, %d: %.100x", what, n, e, b)
	}
	if c, e := icmp.Bytes(n, a.src, a.dst); e != api.OK || !bytes.Equal(c, sealed(b, a)) {
		t.Fatalf("P7.3: %s: %.100x, %d, not %.100x", what, c, e, b)
	}
}

func TestBytes(t *testing.T) {
	v4, v6 := pairs[0], pairs[4]
	zero6 := pairs[6]
	ask := api.Icmp{Type: 8, Rest: 0x00010001}
	big := api.Icmp{Type: 2, Rest: 1280, Data: []byte("abc")}
	for _, x := range []struct {
		m    api.Icmp
		a    pair
		text string
	}{
		{ask, v4, "\x08\x00\xf7\xfd\x00\x01\x00\x01"},
		{ask, pairs[3], "\x08\x00\xf7\xfd\x00\x01\x00\x01"}, // whatever the addresses are
		{api.Icmp{}, v4, "\x00\x00\xff\xff\x00\x00\x00\x00"},
		{api.Icmp{}, zero6, "\x00\x00\xff\xbd\x00\x00\x00\x00"},
		{api.Icmp{Rest: 0xffff}, v4, "\x00\x00\x00\x00\x00\x00\xff\xff"},
		{api.Icmp{Rest: 0xffbd}, zero6, "\x00\x00\x00\x00\x00\x00\xff\xbd"},
		{api.Icmp{Rest: 0x01020304}, v4, "\x00\x00\xfb\xf9\x01\x02\x03\x04"},
		{api.Icmp{Type: 255, Code: 255, Rest: math.MaxUint32}, v4, "\xff\xff\x00\x00\xff\xff\xff\xff"},
		{api.Icmp{Type: 255, Code: 255, Rest: math.MaxUint32}, pairs[7], "\xff\xff\xff\xbd\xff\xff\xff\xff"},
		{big, v4, "\x02\x00\x34\x9d\x00\x00\x05\x00abc"},
		{big, v6, "\x02\x00\xd6\xe4\x00\x00\x05\x00abc"},
	} {
		if b, e := icmp.Bytes(x.m, x.a.src, x.a.dst); string(b) != x.text || e != api.OK {
			t.Errorf("P7.1: Bytes of %v: %x, %d, not %x", x.m, b, e, x.text)
		}
		if m, e := icmp.Parse([]byte(x.text), x.a.src, x.a.dst); !same(m, x.m) || e != api.OK {
			t.Errorf("P7.1: Parse of %x: %v, %d, not %v", x.text, m, e, x.m)
		}
	}
}

// The checksum by the words of the document, of the layer below.
func TestLayerBelow(t *testing.T) {
	for _, a := range pairs {
		for n := range 300 {
			m := api.Icmp{Type: n % 256, Code: n * 7 % 256, Rest: n * 2654435761 % (1 << 32), Data: bytes.Repeat([]byte{byte(n), byte(n * 31)}, n)[:n]}
			b, e := icmp.Bytes(m, a.src, a.dst)
			if e != api.OK {
				t.Fatalf("P7.1: %v: %d", m, e)
			}
			zero := slices.Clone(b)
			zero[2], zero[3] = 0, 0
			check := inet.Check(zero)
			if len(a.src) == 16 {
				around, _ := inet.Pseudo(a.src, a.dst, 58, len(b))
				check = 65535 - inet.Add(around, inet.Sum(zero))
			}
			if int(binary.BigEndian.Uint16(b[2:])) != check {
				t.Errorf("P7.1: the checksum of %x is not %x", b, check)
			}
		}
	}
}

// Each field at values that it may have, the least and the greatest among them,
// and at values that it may not have.
func TestFields(t *testing.T) {
	for _, f := range []struct {
		name string
		most int
		at   func(m *api.Icmp) *int
	}{
		{"Type", math.MaxUint8, func(m *api.Icmp) *int { return &m.Type }},
		{"Code", math.MaxUint8, func(m *api.Icmp) *int { return &m.Code }},
		{"Rest", math.MaxUint32, func(m *api.Icmp) *int { return &m.Rest }},
	} {
		for i, a := range pairs {
			for _, n := range []int{0, 1, 2, 3, 127, 128, 254, 255, 256, 257, 32767, 32768, 65535, 65536, 0xffffff, 0x1000000, 0x7fffffff, 0x80000000, 0xfffffffe, 0xffffffff} {
				for _, m := range []api.Icmp{sample, {}} {
					if *f.at(&m) = n; n <= f.most {
						taken(t, f.name, m, a)
					} else {
						noBytes(t, f.name, m, a, api.ErrArg)
					}
				}
			}
			for _, n := range []int{-1, -2, -128, -255, -256, -65536, -1 << 31, -1 << 32, f.most + 1, f.most + 2, 2*f.most + 1, 2*f.most + 2, 1<<32 + 1, 1 << 40, math.MaxInt64, math.MinInt64, math.MinInt64 + 1} {
				for _, m := range []api.Icmp{sample, {}} {
					*f.at(&m) = n
					noBytes(t, f.name, m, a, api.ErrArg)
					noBytes(t, f.name+" beside wrong addresses", m, unlike[i%len(unlike)], api.ErrArg)
					m.Data = make([]byte, 65528)
					noBytes(t, f.name+" beside too much data", m, a, api.ErrArg)
				}
			}
		}
	}
}

// Every Type with every Code.
func TestTypesAndCodes(t *testing.T) {
	for _, a := range pairs {
		for n := range 65536 {
			taken(t, "a Type and a Code", api.Icmp{Type: n / 256, Code: n % 256, Rest: n, Data: []byte("x")}, a)
		}
	}
}

// Each bit of Rest stands alone in its place.
func TestRestBits(t *testing.T) {
	for _, a := range pairs {
		for bit := range 32 {
			m := api.Icmp{Rest: 1 << bit}
			taken(t, "a bit of Rest", m, a)
			b, _ := icmp.Bytes(m, a.src, a.dst)
			if len(b) != 8 || b[7-bit/8] != 1<<(bit%8) {
				t.Errorf("P7.1: bit %d of Rest: %x", bit, b)
			}
		}
	}
}

// Addresses are both of 4 or both of 16 bytes, whatever else is passed.
func TestAddresses(t *testing.T) {
	long := strings.Repeat("\x07", 40)
	for i := range len(long) + 1 {
		for j := range len(long) + 1 {
			a := pair{long[:i], long[:j]}
			if i == j && (i == 4 || i == 16) {
				taken(t, "addresses", sample, a)
				continue
			}
			noBytes(t, "addresses", sample, a, api.ErrArg)
			noBytes(t, "addresses beside too much data", api.Icmp{Data: make([]byte, 65528)}, a, api.ErrArg)
			noBytes(t, "addresses beside a wrong field", api.Icmp{Type: -1}, a, api.ErrArg)
			noMessage(t, "addresses", want(sample, pairs[0]), a, api.ErrArg)
			noMessage(t, "addresses", want(sample, pairs[4]), a, api.ErrArg)
			noMessage(t, "addresses, no bytes", nil, a, api.ErrArg)
			noMessage(t, "addresses, too many bytes", make([]byte, 65536), a, api.ErrArg)
		}
	}
}

// Between 4-byte addresses they do not matter; between 16-byte addresses they
// do, but not which of them is the source.
func TestOtherAddresses(t *testing.T) {
	for _, a := range pairs {
		b := want(sample, a)
		for _, c := range pairs {
			parses(t, "other addresses", b, c)
			if len(a.src) == 4 && len(c.src) == 4 {
				if m, e := icmp.Parse(b, c.src, c.dst); !same(m, sample) || e != api.OK {
					t.Errorf("P7.1: between %x and %x: %v, %d", c.src, c.dst, m, e)
				}
			}
		}
		if m, e := icmp.Parse(b, a.dst, a.src); !same(m, sample) || e != api.OK {
			t.Errorf("P7.1: from %x to %x: %v, %d", a.dst, a.src, m, e)
		}
	}
	noMessage(t, "other addresses", want(sample, pairs[4]), pairs[5], api.ErrSum)
	noMessage(t, "addresses of the other version", want(sample, pairs[4]), pairs[0], api.ErrSum)
	noMessage(t, "addresses of the other version", want(sample, pairs[0]), pairs[4], api.ErrSum)
}

// An encoding has 65535 bytes at most.
func TestLengths(t *testing.T) {
	for i, a := range pairs {
		for n := range 100 {
			taken(t, "short data", api.Icmp{Type: n, Data: bytes.Repeat([]byte{0xf1}, n)}, a)
		}
		for _, size := range []int{1280, 1472, 32768, 65519, 65524, 65525, 65526, 65527} {
			taken(t, "long data", api.Icmp{Rest: 65535, Data: bytes.Repeat([]byte{byte(i * 0x5a)}, size)}, a)
		}
		for _, size := range []int{65528, 65529, 65535, 65536, 131072, 1 << 20} {
			m := api.Icmp{Data: make([]byte, size)}
			noBytes(t, "too much data", m, a, api.ErrLong)
			noBytes(t, "too much data beside wrong addresses", m, unlike[i%len(unlike)], api.ErrArg)
		}
		if b, e := icmp.Bytes(api.Icmp{Data: make([]byte, 65527)}, a.src, a.dst); len(b) != 65535 || e != api.OK {
			t.Errorf("P7.1: data of 65527 bytes: %d bytes, %d", len(b), e)
		}
	}
}

// Each sum that a message may have: 65535 among them, of which the checksum is
// 0, and between 4-byte addresses 0, of which it is 65535.
func TestChecksums(t *testing.T) {
	for _, a := range pairs {
		counts := map[uint16]int{}
		for n := range 65536 {
			m := api.Icmp{Rest: n}
			taken(t, "a sum", m, a)
			counts[binary.BigEndian.Uint16(want(m, a)[2:])]++
		}
		ones := 0
		if len(a.src) == 4 {
			ones = 1
		}
		if counts[0] == 0 || counts[65535] != ones {
			t.Errorf("P7.1: between %x and %x %d checksums are 0 and %d are 65535", a.src, a.dst, counts[0], counts[65535])
		}
	}
}

// Each checksum field: one is right, and where that is 0 so is 65535.
func TestParseChecksums(t *testing.T) {
	for _, a := range pairs {
		none := api.Icmp{Data: []byte{1, 2, 0, 0}}
		check := binary.BigEndian.Uint16(want(none, a)[2:])
		binary.BigEndian.PutUint16(none.Data[2:], check)
		if b := want(none, a); b[2] != 0 || b[3] != 0 {
			t.Fatalf("between %x and %x the checksum is not 0: %x", a.src, a.dst, b)
		}
		for i, m := range []api.Icmp{sample, none} {
			b, right := want(m, a), 0
			for n := range 65536 {
				binary.BigEndian.PutUint16(b[2:], uint16(n))
				parses(t, "a checksum field", b, a)
				if n2, e := icmp.Parse(b, a.src, a.dst); e == api.OK && same(n2, m) {
					right++
				}
			}
			if right != i+1 {
				t.Errorf("P7.1: %d checksum fields between %x and %x are right, not %d", right, a.src, a.dst, i+1)
			}
		}
	}
	// Of bytes that are all 0 the sum is 0, so the field may not be 0.
	for _, a := range pairs[:4] {
		for size := 8; size < 40; size++ {
			b := make([]byte, size)
			noMessage(t, "all bytes 0", b, a, api.ErrSum)
			b[2], b[3] = 255, 255
			if m, e := icmp.Parse(b, a.src, a.dst); !same(m, api.Icmp{Data: make([]byte, size-8)}) || e != api.OK {
				t.Errorf("P7.1: %x: %v, %d", b, m, e)
			}
		}
	}
}

// Encodings of a few bytes.
func TestParseShort(t *testing.T) {
	for _, a := range pairs {
		noMessage(t, "nil", nil, a, api.ErrMore)
		for n := range 10 {
			for _, fill := range []byte{0, 1, 255} {
				b := bytes.Repeat([]byte{fill}, n)
				parses(t, "a few bytes", b, a)
				if n < 8 {
					noMessage(t, "a few bytes", b, a, api.ErrMore)
					continue
				}
				b = sealed(b, a)
				parses(t, "a few bytes, sealed", b, a)
				if m, e := icmp.Parse(b, a.src, a.dst); len(m.Data) != n-8 || m.Type != int(fill) || e != api.OK {
					t.Errorf("P7.1: %x: %v, %d", b, m, e)
				}
			}
		}
	}
}

func TestParseCutOff(t *testing.T) {
	for _, a := range pairs {
		for _, size := range []int{0, 1, 2, 9, 10, 40} {
			m := sample
			m.Data = bytes.Repeat([]byte{0xa5, 0x01}, size)[:size]
			b := want(m, a)
			for n := range len(b) {
				if n < 8 {
					noMessage(t, "cut off", b[:n], a, api.ErrMore)
				} else {
					parses(t, "data cut off", b[:n], a)
					noMessage(t, "data cut off", b[:n], a, api.ErrSum)
				}
			}
			for more := 1; more < 20; more++ {
				c := append(slices.Clone(b), bytes.Repeat([]byte{0x11}, more)...)
				parses(t, "with bytes behind it", c, a)
				noMessage(t, "with bytes behind it", c, a, api.ErrSum)
				parses(t, "with zeros behind it", append(slices.Clone(b), make([]byte, more)...), a)
			}
		}
	}
}

func TestParseTooLong(t *testing.T) {
	for _, a := range pairs {
		b := want(api.Icmp{Type: 8, Data: make([]byte, 65527)}, a)
		parses(t, "65535 bytes", b, a)
		if m, e := icmp.Parse(b, a.src, a.dst); len(m.Data) != 65527 || e != api.OK {
			t.Errorf("P7.1: 65535 bytes: %d of data, %d", len(m.Data), e)
		}
		for _, more := range []int{1, 2, 3, 65535, 65536, 1 << 20} {
			c := append(slices.Clone(b), make([]byte, more)...)
			noMessage(t, "too many bytes", c, a, api.ErrLong)
			// A checksum that would hold does not make it shorter.
			noMessage(t, "too many bytes, sealed", sealed(c, a), a, api.ErrLong)
		}
	}
}

// Of several faults the first one in the order of the promise is told.
func TestParseOrder(t *testing.T) {
	for i, a := range pairs {
		good := want(sample, a)
		bad := slices.Clone(good)
		bad[0] ^= 1
		long := append(slices.Clone(bad), make([]byte, 65536-len(bad))...)
		for _, x := range []struct {
			what string
			b    []byte
			want api.Errno
		}{
			{"cut off, and altered", bad[:7], api.ErrMore},
			{"too many bytes, and altered", long, api.ErrLong},
			{"altered", bad, api.ErrSum},
		} {
			noMessage(t, x.what, x.b, a, x.want)
			noMessage(t, x.what+", an address too long", x.b, pair{a.src, a.dst + "\x00"}, api.ErrArg)
			noMessage(t, x.what+", an address too short", x.b, pair{a.src[1:], a.dst}, api.ErrArg)
			noMessage(t, x.what+", one of the other version", x.b, pair{a.src, pairs[(i+4)%8].dst}, api.ErrArg)
			for _, wrong := range unlike {
				noMessage(t, x.what+", wrong addresses", x.b, wrong, api.ErrArg)
			}
		}
		for _, wrong := range unlike {
			noMessage(t, "wrong addresses alone", good, wrong, api.ErrArg)
		}
	}
}

// Each byte of a message, and each byte of its addresses, at each value.
func TestAltered(t *testing.T) {
	for _, a := range pairs {
		for _, data := range []string{"", "odd", "\x00\xff", "some more bytes than that"} {
			m := sample
			m.Data = []byte(data)
			b := want(m, a)
			for at := range b {
				for n := range 256 {
					c := slices.Clone(b)
					c[at] = byte(n)
					parses(t, "a byte altered", c, a)
					parses(t, "a byte altered and sealed", sealed(c, a), a)
				}
			}
			for at := range len(a.src) {
				for n := range 256 {
					parses(t, "src altered", b, pair{a.src[:at] + string([]byte{byte(n)}) + a.src[at+1:], a.dst})
					parses(t, "dst altered", b, pair{a.src, a.dst[:at] + string([]byte{byte(n)}) + a.dst[at+1:]})
				}
			}
		}
	}
}

// A bit that is altered anywhere is noticed, one of the addresses of version 6
// too.
func TestAlteredBit(t *testing.T) {
	flip := func(s string, at int, bit int) string {
		b := []byte(s)
		b[at] ^= 1 << bit
		return string(b)
	}
	for _, a := range pairs {
		b := string(want(sample, a))
		for bit := range 8 {
			for at := range b {
				noMessage(t, "a bit altered", []byte(flip(b, at, bit)), a, api.ErrSum)
			}
			if len(a.src) == 4 {
				continue
			}
			for at := range a.src {
				noMessage(t, "a bit of src altered", []byte(b), pair{flip(a.src, at, bit), a.dst}, api.ErrSum)
				noMessage(t, "a bit of dst altered", []byte(b), pair{a.src, flip(a.dst, at, bit)}, api.ErrSum)
			}
		}
	}
}

func TestThereAndBack(t *testing.T) {
	for _, a := range pairs {
		for i := range 5000 {
			m := api.Icmp{
				Type: i % 256, Code: i * 37 % 256, Rest: i * 2654435761 % (1 << 32),
				Data: bytes.Repeat([]byte{byte(i), byte(i * 37), byte(i >> 4)}, i%50)[:i%50],
			}
			b, e := icmp.Bytes(m, a.src, a.dst)
			n, e2 := icmp.Parse(b, a.src, a.dst)
			if e != api.OK || e2 != api.OK || !same(m, n) {
				t.Errorf("P7.3: %v, %d, %d, not %v", n, e, e2, m)
			}
			if c, e := icmp.Bytes(n, a.src, a.dst); !bytes.Equal(b, c) || e != api.OK {
				t.Errorf("P7.3: %x, %d, not %x", c, e, b)
			}
		}
	}
}

// Bytes of any kind, most of them no message.
func TestAnyBytes(t *testing.T) {
	state := uint32(1)
	draw := func(most int) int {
		state = state*1664525 + 1013904223
		return int(state>>8) % most
	}
	good := 0
	for i := range 200000 {
		a, b := pairs[i%len(pairs)], make([]byte, draw(40))
		for at := range b {
			b[at] = []byte{0, 1, 255, byte(draw(256))}[draw(4)]
		}
		if len(b) >= 8 && draw(4) > 0 {
			b = sealed(b, a)
		}
		parses(t, "any bytes", b, a)
		if _, e := icmp.Parse(b, a.src, a.dst); e == api.OK {
			good++
		}
	}
	if good < 10000 {
		t.Errorf("P7.1: only %d are messages", good)
	}
}

// kinds4 and kinds6 are the table of the document, a row for each Type; a Code
// in a row of its own goes before.
func kinds4(typ int, code int) int {
	switch [2]int{typ, code} {
	case [2]int{8, 0}:
		return api.KindAsk
	case [2]int{0, 0}:
		return api.KindAnswer
	case [2]int{3, 4}:
		return api.KindBig
	}
	return map[int]int{3: api.KindLost, 11: api.KindTime, 12: api.KindBad}[typ]
}

func kinds6(typ int, code int) int {
	switch [2]int{typ, code} {
	case [2]int{128, 0}:
		return api.KindAsk
	case [2]int{129, 0}:
		return api.KindAnswer
	}
	return map[int]int{1: api.KindLost, 2: api.KindBig, 3: api.KindTime, 4: api.KindBad}[typ]
}

// sorted fails unless Kind answers the kinds of the tables, whatever Rest and
// Data are.
func sorted(t *testing.T, typ int, code int) {
	t.Helper()
	for _, m := range []api.Icmp{{}, {Rest: math.MaxUint32, Data: []byte("\x08\x00")}, {Rest: -1, Data: make([]byte, 65528)}} {
		m.Type, m.Code = typ, code
		if k := icmp.Kind(m, false); k != kinds4(typ, code) {
			t.Fatalf("P7.2: Kind of Type %d, Code %d: %d, not %d", typ, code, k, kinds4(typ, code))
		}
		if k := icmp.Kind(m, true); k != kinds6(typ, code) {
			t.Fatalf("P7.2: Kind of Type %d, Code %d, wide: %d, not %d", typ, code, k, kinds6(typ, code))
		}
	}
}

func TestKind(t *testing.T) {
	for _, x := range []struct{ typ, code, four, six int }{
		{8, 0, api.KindAsk, api.KindOther},
		{8, 1, api.KindOther, api.KindOther},
		{0, 0, api.KindAnswer, api.KindOther},
		{0, 1, api.KindOther, api.KindOther},
		{3, 0, api.KindLost, api.KindTime},
		{3, 1, api.KindLost, api.KindTime},
		{3, 3, api.KindLost, api.KindTime},
		{3, 4, api.KindBig, api.KindTime},
		{3, 5, api.KindLost, api.KindTime},
		{3, 255, api.KindLost, api.KindTime},
		{11, 0, api.KindTime, api.KindOther},
		{11, 255, api.KindTime, api.KindOther},
		{12, 0, api.KindBad, api.KindOther},
		{12, 255, api.KindBad, api.KindOther},
		{1, 0, api.KindOther, api.KindLost},
		{1, 4, api.KindOther, api.KindLost},
		{1, 255, api.KindOther, api.KindLost},
		{2, 0, api.KindOther, api.KindBig},
		{2, 255, api.KindOther, api.KindBig},
		{4, 0, api.KindOther, api.KindBad},
		{4, 255, api.KindOther, api.KindBad},
		{128, 0, api.KindOther, api.KindAsk},
		{128, 1, api.KindOther, api.KindOther},
		{129, 0, api.KindOther, api.KindAnswer},
		{129, 1, api.KindOther, api.KindOther},
	} {
		m := api.Icmp{Type: x.typ, Code: x.code}
		if k := icmp.Kind(m, false); k != x.four {
			t.Errorf("P7.2: Kind of Type %d, Code %d: %d, not %d", x.typ, x.code, k, x.four)
		}
		if k := icmp.Kind(m, true); k != x.six {
			t.Errorf("P7.2: Kind of Type %d, Code %d, wide: %d, not %d", x.typ, x.code, k, x.six)
		}
	}
}

// Every Type with every Code, and some that are no bytes: any Code is any
// number, but a Type that is no byte is none of the table's.
func TestKinds(t *testing.T) {
	for typ := -20; typ < 300; typ++ {
		for code := -20; code < 300; code++ {
			sorted(t, typ, code)
		}
	}
	edges := []int{-1 << 32, -65536, -256, -255, -253, -252, -128, 512, 515, 65535, 65536, 65539, 1<<32 + 3, 1<<32 + 8, math.MaxInt64, math.MinInt64, math.MinInt64 + 3}
	for _, n := range edges {
		for m := -20; m < 300; m++ {
			sorted(t, n, m)
			sorted(t, m, n)
			if k := icmp.Kind(api.Icmp{Type: n, Code: m}, m%2 == 0); k != api.KindOther {
				t.Errorf("P7.2: Kind of Type %d: %d", n, k)
			}
		}
		for _, m := range edges {
			sorted(t, n, m)
		}
		for _, x := range []struct {
			typ, kind int
			wide      bool
		}{
			{8, api.KindOther, false}, {0, api.KindOther, false}, {3, api.KindLost, false}, {11, api.KindTime, false}, {12, api.KindBad, false},
			{128, api.KindOther, true}, {129, api.KindOther, true}, {1, api.KindLost, true}, {2, api.KindBig, true}, {3, api.KindTime, true}, {4, api.KindBad, true},
		} {
			if k := icmp.Kind(api.Icmp{Type: x.typ, Code: n}, x.wide); k != x.kind {
				t.Errorf("P7.2: Kind of Type %d, Code %d, wide %t: %d, not %d", x.typ, n, x.wide, k, x.kind)
			}
		}
	}
}

// made is the Type and the Code of what Make gives, by kind and version.
var made = map[bool][7][2]int{
	false: {1: {8, 0}, 2: {0, 0}, 3: {3, 1}, 4: {3, 4}, 5: {11, 0}, 6: {12, 0}},
	true:  {1: {128, 0}, 2: {129, 0}, 3: {1, 0}, 4: {2, 0}, 5: {3, 0}, 6: {4, 0}},
}

// noMake fails unless Make answers ErrArg, and no message.
func noMake(t *testing.T, kind int, wide bool, rest int, data []byte) {
	t.Helper()
	if m, e := icmp.Make(kind, wide, rest, data); !reflect.DeepEqual(m, api.Icmp{}) || e != api.ErrArg {
		t.Errorf("P7.2: Make(%d, %t, %d, %d bytes): %.200v, %d", kind, wide, rest, len(data), m, e)
	}
}

func TestMake(t *testing.T) {
	rests := []int{0, 1, 255, 256, 1280, 65535, 65536, 65537, 0x7fffffff, 0x80000000, 0xfffffffe, 0xffffffff}
	wrong := []int{-1, -2, -65536, -1 << 32, 1 << 32, 1<<32 + 1, 1 << 40, math.MaxInt64, math.MinInt64}
	datas := [][]byte{nil, {}, []byte("x"), []byte("data of a message"), make([]byte, 65527), make([]byte, 65528), make([]byte, 1<<17)}
	for _, wide := range versions {
		for _, data := range datas {
			for kind := 1; kind <= 6; kind++ {
				look := made[wide][kind]
				for _, rest := range rests {
					want := api.Icmp{Type: look[0], Code: look[1], Rest: rest, Data: data}
					m, e := icmp.Make(kind, wide, rest, data)
					if !same(m, want) || e != api.OK {
						t.Errorf("P7.2: Make(%d, %t, %d, %d bytes): %.200v, %d", kind, wide, rest, len(data), m, e)
					}
					if k := icmp.Kind(m, wide); k != kind {
						t.Errorf("P7.3: %.200v is of kind %d, not %d", m, k, kind)
					}
				}
				for _, rest := range wrong {
					noMake(t, kind, wide, rest, data)
				}
			}
			for _, kind := range []int{0, -1, -2, -3, -6, -256, 7, 8, 9, 11, 12, 128, 129, 255, 256, 257, 1<<32 + 1, math.MaxInt64, math.MinInt64, math.MinInt64 + 1} {
				for _, rest := range slices.Concat(rests, wrong) {
					noMake(t, kind, wide, rest, data)
				}
			}
		}
	}
}

// The Code that Make gives is the smallest of its kind, but for the one that
// the document names.
func TestLeastCode(t *testing.T) {
	for _, wide := range versions {
		for kind := 1; kind <= 6; kind++ {
			m, _ := icmp.Make(kind, wide, 0, nil)
			least := 0
			for least < 256 && icmp.Kind(api.Icmp{Type: m.Type, Code: least}, wide) != kind {
				least++
			}
			if kind == api.KindLost && !wide {
				least = 1
			}
			if m.Code != least {
				t.Errorf("P7.2: Make(%d, %t): Code %d, not %d", kind, wide, m.Code, least)
			}
		}
	}
}

// What Make answers goes from one node to another as what it is.
func TestMadeAndSent(t *testing.T) {
	for _, a := range pairs {
		for kind := 1; kind <= 6; kind++ {
			wide := len(a.src) == 16
			m, e := icmp.Make(kind, wide, 0x01020304, []byte("about a packet"))
			if e != api.OK {
				t.Fatalf("P7.2: Make(%d, %t): %d", kind, wide, e)
			}
			taken(t, "what is made", m, a)
			b, _ := icmp.Bytes(m, a.src, a.dst)
			n, _ := icmp.Parse(b, a.src, a.dst)
			if k := icmp.Kind(n, wide); k != kind {
				t.Errorf("P7.3: %v is of kind %d, not %d", n, k, kind)
			}
		}
	}
}

func TestError(t *testing.T) {
	for kind, want := range map[int]bool{
		api.KindOther: false, api.KindAsk: false, api.KindAnswer: false,
		api.KindLost: true, api.KindBig: true, api.KindTime: true, api.KindBad: true,
	} {
		if icmp.Error(kind) != want {
			t.Errorf("P7.2: Error(%d) is %t", kind, !want)
		}
	}
	kinds := []int{-65536, -1 << 32, 1<<8 + 3, 1<<16 + 3, 1<<32 + 3, math.MaxInt64, math.MinInt64, math.MinInt64 + 3}
	for n := -300; n < 0; n++ {
		kinds = append(kinds, n, 6-n)
	}
	for _, n := range kinds {
		if icmp.Error(n) {
			t.Errorf("P7.2: Error(%d)", n)
		}
	}
}

// R2: what is passed stays as it is, its spare capacity too, and what is
// answered stays as it is when that is altered.
func TestMemory(t *testing.T) {
	const text = "data and what stands behind it"
	for _, a := range pairs {
		room := []byte(text)
		m := sample
		m.Data = room[:4]
		icmp.Kind(m, false)
		icmp.Kind(m, true)
		made, _ := icmp.Make(api.KindAsk, len(a.src) == 16, 7, room[:4])
		_ = append(made.Data, "more"...)
		b, _ := icmp.Bytes(m, a.src, a.dst)
		kept := slices.Clone(b)
		if string(room) != text {
			t.Errorf("P7.1, P7.2: an argument is altered: %s", room)
		}
		clear(room)
		if !bytes.Equal(b, kept) {
			t.Error("P7.1: Bytes shares memory with its argument")
		}
		if string(made.Data) != "data" {
			t.Error("P7.2: Make shares memory with its argument")
		}
		b = append(slices.Clone(kept), "behind"...)[:len(kept)]
		n, _ := icmp.Parse(b, a.src, a.dst)
		if !bytes.Equal(b[:len(b)+6], append(slices.Clone(kept), "behind"...)) {
			t.Error("P7.1: Parse altered its argument")
		}
		clear(b[:len(b)+6])
		if string(n.Data) != "data" {
			t.Errorf("P7.1: Parse shares memory with its argument: %v", n)
		}
		_ = append(n.Data, "more"...)
		if string(b[:len(b)+6]) != strings.Repeat("\x00", len(b)+6) {
			t.Error("P7.1: what Parse answers has room in its argument")
		}
	}
}
