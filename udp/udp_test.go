package udp_test

import (
	"bytes"
	"encoding/binary"
	"math"
	"reflect"
	"slices"
	"strings"
	"testing"

	"redoubt/api"
	"redoubt/udp"
)

// pair is the addresses that a datagram goes between.
type pair struct{ src, dst string }

// pairs are of both versions, with many different words and with equal ones.
var pairs = []pair{
	{"\x0a\x00\x00\x01", "\x0a\x00\x00\x02"},
	{"\xc0\xa8\xfe\x63", "\x7f\x13\x80\xf1"},
	{"\x00\x00\x00\x00", "\x00\x00\x00\x00"},
	{"\xff\xff\xff\xff", "\xff\xff\xff\xff"},
	{"\x20\x01\x0d\xb8\x00\x00\x00\x00\x00\x00\x00\x00\x00\x00\x00\x01", "\xfe\x80\x01\x02\x03\x04\x05\x06\x07\x08\x09\x0a\x0b\x0c\x0d\x0e"},
	{"\xfd\x12\x34\x56\x78\x9a\xbc\xde\xf0\x11\x22\x33\x44\x55\x66\x77", "\xff\x02\x00\x00\x00\x00\x00\x00\x00\x00\x00\x01\xff\x00\x11\x22"},
	{strings.Repeat("\x00", 16), strings.Repeat("\x00", 16)},
	{strings.Repeat("\xff", 16), strings.Repeat("\xff", 16)},
}

// total adds the big-endian words of b as plain numbers.
func total(b []byte) int {
	n := 0
	for i, x := range b {
		n += int(x) << (8 * (1 - i%2))
	}
	return n
}

// sealed is an encoding with its checksum put into it: told by one total of all
// words, not by steps, for a length that the encoding may also state wrongly.
func sealed(b []byte, a pair) []byte {
	b = slices.Clone(b)
	b[6], b[7] = 0, 0
	all := total([]byte(a.src)) + total([]byte(a.dst)) + 17 + len(b) + total(b)
	check := 65535 - all%65535 // all is not 0, for it holds the protocol
	b[6], b[7] = byte(check/256), byte(check%256)
	return b
}

// want is the encoding of a datagram.
func want(u api.Udp, a pair) []byte {
	b := binary.BigEndian.AppendUint32(nil, uint32(u.Src*65536+u.Dst))
	b = binary.BigEndian.AppendUint32(b, uint32((8+len(u.Data))*65536))
	return sealed(append(b, u.Data...), a)
}

// told is what Parse has to answer.
func told(b []byte, a pair) (api.Udp, api.Errno) {
	if n := len(a.src); n != len(a.dst) || n != 4 && n != 16 {
		return api.Udp{}, api.ErrArg
	}
	if len(b) < 8 {
		return api.Udp{}, api.ErrMore
	}
	size := int(binary.BigEndian.Uint16(b[4:]))
	if len(b) < size {
		return api.Udp{}, api.ErrMore
	}
	if size < 8 || len(b) > size {
		return api.Udp{}, api.ErrForm
	}
	none := b[6] == 0 && b[7] == 0
	if none && len(a.src) == 16 || !none && !bytes.Equal(b, sealed(b, a)) {
		return api.Udp{}, api.ErrSum
	}
	return api.Udp{Src: int(b[0])*256 + int(b[1]), Dst: int(b[2])*256 + int(b[3]), Data: slices.Clone(b[8:])}, api.OK
}

// same reports whether two datagrams are equal; of no data there may be nil or
// an empty slice.
func same(u, v api.Udp) bool {
	return u.Src == v.Src && u.Dst == v.Dst && bytes.Equal(u.Data, v.Data)
}

// taken fails unless Bytes answers the encoding of a datagram, and Parse the
// datagram of that.
func taken(t *testing.T, what string, u api.Udp, a pair) {
	t.Helper()
	b, e := udp.Bytes(u, a.src, a.dst)
	if !bytes.Equal(b, want(u, a)) || e != api.OK {
		t.Errorf("P5.1: Bytes, %s: %d bytes %.100x, %d, not %.100x", what, len(b), b, e, want(u, a))
	}
	if v, e := udp.Parse(want(u, a), a.src, a.dst); !same(u, v) || e != api.OK {
		t.Errorf("P5.2: Parse, %s: %d, %d, %d bytes, %d", what, v.Src, v.Dst, len(v.Data), e)
	}
}

// refused fails unless Bytes answers an error, and no bytes.
func refused(t *testing.T, what string, u api.Udp, a pair, want api.Errno) {
	t.Helper()
	if b, e := udp.Bytes(u, a.src, a.dst); len(b) != 0 || e != want {
		t.Errorf("P5.1: Bytes, %s: %d bytes, %d, not %d", what, len(b), e, want)
	}
}

// noDatagram fails unless Parse answers an error, and nothing else.
func noDatagram(t *testing.T, what string, b []byte, a pair, want api.Errno) {
	t.Helper()
	if u, e := udp.Parse(b, a.src, a.dst); !reflect.DeepEqual(u, api.Udp{}) || e != want {
		t.Errorf("P5.2: Parse, %s: %d, %d, %d bytes, %d, not %d: %.100x", what, u.Src, u.Dst, len(u.Data), e, want, b)
	}
}

// parses fails unless Parse answers what told tells, and Bytes then the same
// bytes again where they have a checksum.
func parses(t *testing.T, what string, b []byte, a pair) {
	t.Helper()
	u, e := told(b, a)
	if e != api.OK {
		noDatagram(t, what, b, a, e)
		return
	}
	v, e := udp.Parse(b, a.src, a.dst)
	if e != api.OK || !same(u, v) {
		t.Errorf("P5.2: Parse, %s: %d, %d, %d bytes, %d: %.100x", what, v.Src, v.Dst, len(v.Data), e, b)
	}
	c, e := udp.Bytes(v, a.src, a.dst)
	if e != api.OK || !bytes.Equal(b, c) && (b[6] != 0 || b[7] != 0) {
		t.Errorf("P5.3: %s: %.100x, %d, not %.100x", what, c, e, b)
	}
}

func TestBytes(t *testing.T) {
	zero4, zero6 := strings.Repeat("\x00", 4), strings.Repeat("\x00", 16)
	for _, x := range []struct {
		u    api.Udp
		a    pair
		text string
	}{
		{api.Udp{Src: 1, Dst: 2}, pairs[0], "\x00\x01\x00\x02\x00\x08\xeb\xd8"},
		{api.Udp{Src: 53, Dst: 49152, Data: []byte("odd")}, pairs[0], "\x00\x35\xc0\x00\x00\x0b\x58\x3bodd"},
		{api.Udp{Src: 65535, Dst: 65535, Data: []byte("even")}, pair{"\xc0\xa8\x01\x63", "\xff\xff\xff\xff"}, "\xff\xff\xff\xff\x00\x0c\x72\xe6even"},
		{api.Udp{}, pair{zero4, zero4}, "\x00\x00\x00\x00\x00\x08\xff\xde"},
		{api.Udp{Dst: 65502}, pair{zero4, zero4}, "\x00\x00\xff\xde\x00\x08\xff\xff"},
		{api.Udp{Src: 53, Dst: 49152, Data: []byte("odd")}, pairs[4], "\x00\x35\xc0\x00\x00\x0b\x0e\xcbodd"},
		{api.Udp{Src: 0x1234, Dst: 0xfedc, Data: []byte{255, 0, 255}}, pair{pairs[4].dst, pairs[4].src}, "\x12\x34\xfe\xdc\x00\x0b\x93\x52\xff\x00\xff"},
		{api.Udp{}, pair{zero6, zero6}, "\x00\x00\x00\x00\x00\x08\xff\xde"},
		{api.Udp{Dst: 65502}, pair{zero6, zero6}, "\x00\x00\xff\xde\x00\x08\xff\xff"},
	} {
		if b, e := udp.Bytes(x.u, x.a.src, x.a.dst); string(b) != x.text || e != api.OK {
			t.Errorf("P5.1: Bytes of %v: %x, %d, not %x", x.u, b, e, x.text)
		}
		if u, e := udp.Parse([]byte(x.text), x.a.src, x.a.dst); !same(u, x.u) || e != api.OK {
			t.Errorf("P5.2: Parse of %x: %v, %d, not %v", x.text, u, e, x.u)
		}
	}
}

func TestPorts(t *testing.T) {
	data := []byte("to a port")
	for _, a := range pairs {
		for _, n := range []int{0, 1, 255, 256, 32767, 32768, 65534, 65535} {
			taken(t, "Src", api.Udp{Src: n, Dst: 4660, Data: data}, a)
			taken(t, "Dst", api.Udp{Src: 4660, Dst: n, Data: data}, a)
			taken(t, "Src and Dst", api.Udp{Src: n, Dst: n}, a)
		}
		for _, n := range []int{-1, -2, -65535, -65536, 65536, 65537, 131071, 1 << 31, 1<<32 + 1, math.MaxInt64, math.MinInt64, math.MinInt64 + 1} {
			refused(t, "Src", api.Udp{Src: n, Dst: 4660, Data: data}, a, api.ErrArg)
			refused(t, "Dst", api.Udp{Src: 4660, Dst: n, Data: data}, a, api.ErrArg)
			refused(t, "Src and Dst", api.Udp{Src: n, Dst: n}, a, api.ErrArg)
		}
	}
}

// Addresses are both of 4 or both of 16 bytes, whatever else is passed.
func TestAddresses(t *testing.T) {
	long, u := strings.Repeat("\x07", 40), api.Udp{Src: 7, Dst: 9, Data: []byte("data")}
	for i := range len(long) + 1 {
		for j := range len(long) + 1 {
			a := pair{long[:i], long[:j]}
			if i == j && (i == 4 || i == 16) {
				taken(t, "addresses", u, a)
				continue
			}
			refused(t, "addresses", u, a, api.ErrArg)
			noDatagram(t, "addresses", want(u, a), a, api.ErrArg)
			none := want(u, a)
			none[6], none[7] = 0, 0
			noDatagram(t, "addresses, no checksum", none, a, api.ErrArg)
		}
	}
}

func TestLengths(t *testing.T) {
	for _, a := range pairs {
		for n := range 100 {
			taken(t, "short data", api.Udp{Src: n, Dst: 1, Data: bytes.Repeat([]byte{0xf1}, n)}, a)
		}
		for _, n := range []int{247, 248, 249, 1480, 65525, 65526, 65527} {
			for _, x := range []byte{0, 0x5a, 255} {
				taken(t, "long data", api.Udp{Src: 65535, Dst: 65535, Data: bytes.Repeat([]byte{x}, n)}, a)
			}
		}
		if b, e := udp.Bytes(api.Udp{Data: make([]byte, 65527)}, a.src, a.dst); len(b) != 65535 || e != api.OK || b[4] != 255 || b[5] != 255 {
			t.Errorf("P5.1: data of 65527 bytes: %d bytes, %d", len(b), e)
		}
		for _, n := range []int{65528, 65529, 65535, 65536, 65544, 131072, 1 << 20} {
			refused(t, "too much data", api.Udp{Data: make([]byte, n)}, a, api.ErrLong)
		}
	}
}

// What is wrong and too long is refused because it is wrong.
func TestWrongBeforeTooLong(t *testing.T) {
	data := make([]byte, 65528)
	for _, a := range pairs {
		refused(t, "Src beside too much data", api.Udp{Src: 65536, Data: data}, a, api.ErrArg)
		refused(t, "Dst beside too much data", api.Udp{Dst: -1, Data: data}, a, api.ErrArg)
	}
	for _, a := range []pair{{}, {pairs[0].src, pairs[4].dst}, {pairs[4].src, pairs[0].dst}, {"12345", "12345"}, {"1234", ""}} {
		refused(t, "addresses beside too much data", api.Udp{Data: data}, a, api.ErrArg)
	}
}

// Each sum that a datagram may have, 65535 among them: the checksum of that
// would be 0, and is 65535.
func TestChecksums(t *testing.T) {
	for _, a := range pairs {
		whole := 0
		for n := range 65536 {
			u := api.Udp{Src: 0x1234, Dst: 0x5678, Data: []byte{byte(n >> 8), byte(n)}}
			taken(t, "a sum", u, a)
			if b := want(u, a); b[6] == 255 && b[7] == 255 {
				whole++
			}
		}
		if whole == 0 {
			t.Errorf("P5.1: between %x and %x no checksum would be 0", a.src, a.dst)
		}
	}
}

// Each checksum field: one is right, and between 4-byte addresses so is 0.
func TestParseChecksums(t *testing.T) {
	zero4 := pair{strings.Repeat("\x00", 4), strings.Repeat("\x00", 4)}
	zero6 := pair{strings.Repeat("\x00", 16), strings.Repeat("\x00", 16)}
	for _, x := range []struct {
		u api.Udp
		a pair
	}{
		{api.Udp{Src: 9, Dst: 8, Data: []byte("some data")}, pairs[1]},
		{api.Udp{Src: 9, Dst: 8, Data: []byte("some data")}, pairs[5]},
		{api.Udp{Dst: 65502}, zero4}, // the checksum is 65535
		{api.Udp{Dst: 65502}, zero6},
	} {
		b, right := want(x.u, x.a), 0
		for n := range 65536 {
			c := slices.Clone(b)
			c[6], c[7] = byte(n>>8), byte(n)
			parses(t, "a checksum field", c, x.a)
			u, e := udp.Parse(c, x.a.src, x.a.dst)
			if e == api.OK && same(u, x.u) {
				right++
			}
		}
		if right != 1 && len(x.a.src) == 16 || right != 2 && len(x.a.src) == 4 {
			t.Errorf("P5.2: %d checksum fields between %x and %x are right", right, x.a.src, x.a.dst)
		}
	}
}

// A checksum field of 0 tells that there is none, between 4-byte addresses
// alone, and whatever the bytes sum to.
func TestParseWithoutChecksum(t *testing.T) {
	for _, a := range pairs {
		for n := range 600 {
			b := want(api.Udp{Src: n, Dst: 65535 - n, Data: bytes.Repeat([]byte{byte(n)}, n%20)}, a)
			b[6], b[7] = 0, 0
			if len(a.src) == 16 {
				noDatagram(t, "no checksum", b, a, api.ErrSum)
				continue
			}
			if u, e := udp.Parse(b, a.src, a.dst); u.Src != n || u.Dst != 65535-n || !bytes.Equal(u.Data, b[8:]) || e != api.OK {
				t.Errorf("P5.2: no checksum: %v, %d: %x", u, e, b)
			}
			noDatagram(t, "no checksum, cut off", b[:len(b)-1], a, api.ErrMore)
			noDatagram(t, "no checksum, with a byte behind it", append(b, 0), a, api.ErrForm)
		}
		// Half of a checksum field of 0 is not one.
		for _, half := range []int{6, 7} {
			b := want(api.Udp{Src: 1, Dst: 2, Data: []byte("half")}, a)
			b[half] = 0
			if bytes.Equal(b, want(api.Udp{Src: 1, Dst: 2, Data: []byte("half")}, a)) {
				t.Fatalf("byte %d is 0 already", half)
			}
			noDatagram(t, "half a checksum field of 0", b, a, api.ErrSum)
		}
	}
	// Between 16-byte addresses 0 is refused even where all words make 65535.
	zero := strings.Repeat("\x00", 16)
	noDatagram(t, "no checksum where it would be 0", []byte("\x00\x00\xff\xde\x00\x08\x00\x00"), pair{zero, zero}, api.ErrSum)
}

// Each length field, of datagrams with data and without, sealed or without a
// checksum.
func TestParseLengthField(t *testing.T) {
	for _, a := range pairs[3:5] {
		for _, size := range []int{8, 9, 21} {
			for n := range 65536 {
				b := make([]byte, size)
				b[0], b[3], b[4], b[5] = 1, 2, byte(n>>8), byte(n)
				expect := api.OK
				if n > size {
					expect = api.ErrMore
				} else if n < size {
					expect = api.ErrForm
				}
				u, e := udp.Parse(sealed(b, a), a.src, a.dst)
				if e != expect || e == api.OK && (u.Src != 256 || u.Dst != 2 || len(u.Data) != size-8) || e != api.OK && !reflect.DeepEqual(u, api.Udp{}) {
					t.Errorf("P5.2: length field %d of %d: %v, %d, not %d", n, size, u, e, expect)
				}
				parses(t, "a length field without a checksum", b, a)
			}
		}
	}
}

// A length field of less than 8 has no form, however many bytes there are.
func TestParseShortLengthField(t *testing.T) {
	for _, a := range pairs {
		for n := range 9 {
			for size := range 30 {
				b := []byte("\x00\x01\x00\x02\x00\x08\x00\x00behind it, and more to come")[:size]
				if size > 5 {
					b[5] = byte(n)
				}
				if size < 8 {
					noDatagram(t, "fewer than 8 bytes", b, a, api.ErrMore)
				} else if n < 8 || size > 8 {
					noDatagram(t, "a length field of less", b, a, api.ErrForm)
					noDatagram(t, "a length field of less", sealed(b, a), a, api.ErrForm)
				} else {
					parses(t, "a length field of 8", sealed(b, a), a)
				}
			}
		}
	}
}

func TestParseCutOff(t *testing.T) {
	for _, a := range pairs {
		for _, size := range []int{0, 1, 2, 9, 10, 600, 65526, 65527} {
			b := want(api.Udp{Src: 40000, Dst: 53, Data: bytes.Repeat([]byte{0xa5}, size)}, a)
			step := 1 + len(b)/1000
			for n := 0; n < len(b); n += step {
				noDatagram(t, "cut off", b[:n], a, api.ErrMore)
			}
			noDatagram(t, "without its last byte", b[:len(b)-1], a, api.ErrMore)
			for _, more := range []int{1, 2, 3, 8, 65535, 65536} {
				noDatagram(t, "with bytes behind it", append(slices.Clone(b), make([]byte, more)...), a, api.ErrForm)
			}
		}
		noDatagram(t, "nil", nil, a, api.ErrMore)
		noDatagram(t, "none", []byte{}, a, api.ErrMore)
	}
}

// Of several faults the first one in the order of the promise is told.
func TestParseOrder(t *testing.T) {
	cut := func(b []byte) []byte { return b[:7] }
	long := func(b []byte) []byte { b[4] = 1; return b }
	less := func(b []byte) []byte { b[4], b[5] = 0, 7; return b }
	tail := func(b []byte) []byte { return append(b, 0) }
	none := func(b []byte) []byte { b[6], b[7] = 0, 0; return b }
	sum := func(b []byte) []byte { b[0] ^= 1; return b }
	for _, x := range []struct {
		what  string
		turns []func(b []byte) []byte
		want  api.Errno
	}{
		{"cut off", []func(b []byte) []byte{sum, cut}, api.ErrMore},
		{"cut off before a length field of less", []func(b []byte) []byte{less, cut}, api.ErrMore},
		{"cut off before no checksum", []func(b []byte) []byte{none, cut}, api.ErrMore},
		{"too few bytes before the checksum", []func(b []byte) []byte{long, sum}, api.ErrMore},
		{"too few bytes before no checksum", []func(b []byte) []byte{long, none}, api.ErrMore},
		{"a length field of less before the checksum", []func(b []byte) []byte{less, sum}, api.ErrForm},
		{"a length field of less before no checksum", []func(b []byte) []byte{less, none}, api.ErrForm},
		{"too many bytes before the checksum", []func(b []byte) []byte{sum, tail}, api.ErrForm},
		{"too many bytes before no checksum", []func(b []byte) []byte{none, tail}, api.ErrForm},
		{"the checksum", []func(b []byte) []byte{sum}, api.ErrSum},
	} {
		for _, a := range pairs {
			b := want(api.Udp{Src: 1, Dst: 2, Data: []byte("data")}, a)
			for _, turn := range x.turns {
				b = turn(b)
			}
			noDatagram(t, x.what, b, a, x.want)
			noDatagram(t, x.what+", wrong addresses", b, pair{a.src, a.dst + "\x00"}, api.ErrArg)
			noDatagram(t, x.what+", mixed addresses", b, pair{pairs[0].src, pairs[4].dst}, api.ErrArg)
			noDatagram(t, x.what+", no addresses", b, pair{}, api.ErrArg)
		}
	}
	noDatagram(t, "nothing at all", nil, pair{}, api.ErrArg)
}

// Each byte of a datagram, and each byte of its addresses, at each value.
func TestAltered(t *testing.T) {
	for _, a := range pairs {
		for _, data := range []string{"", "odd", "even", "\x00\x00", "\xff\xff\xff\xff\xff"} {
			u := api.Udp{Src: 0x0035, Dst: 0xc0ff, Data: []byte(data)}
			b := want(u, a)
			for at := range b {
				for n := range 256 {
					c := slices.Clone(b)
					c[at] = byte(n)
					parses(t, "a byte altered", c, a)
				}
			}
			for at := range len(a.src) {
				for n := range 256 {
					parses(t, "src altered", b, pair{a.src[:at] + string([]byte{byte(n)}) + a.src[at+1:], a.dst})
					parses(t, "dst altered", b, pair{a.src, a.dst[:at] + string([]byte{byte(n)}) + a.dst[at+1:]})
				}
			}
		}
	}
}

// A bit that is altered anywhere is noticed.
func TestAlteredBit(t *testing.T) {
	for _, a := range pairs {
		b := want(api.Udp{Src: 5353, Dst: 0x8001, Data: []byte("a datagram")}, a)
		for at := range b {
			for bit := range 8 {
				c := slices.Clone(b)
				c[at] ^= 1 << bit
				if u, e := udp.Parse(c, a.src, a.dst); e == api.OK || !reflect.DeepEqual(u, api.Udp{}) {
					t.Errorf("P5.2: bit %d of byte %d altered: %v, %d", bit, at, u, e)
				}
			}
		}
	}
}

// A datagram comes back, from either end's point of view.
func TestThereAndBack(t *testing.T) {
	for _, a := range pairs {
		for i := range 3000 {
			u := api.Udp{Src: i * 7919 % 65536, Dst: 65535 - i*31%65536, Data: bytes.Repeat([]byte{byte(i), byte(i * 37), byte(i >> 4)}, i%50)[:i%50]}
			b, e := udp.Bytes(u, a.src, a.dst)
			v, e2 := udp.Parse(b, a.src, a.dst)
			w, e3 := udp.Parse(b, a.dst, a.src)
			if e != api.OK || e2 != api.OK || e3 != api.OK || !same(u, v) || !same(u, w) {
				t.Errorf("P5.3: %v, %v, %d, %d, %d, not %v", v, w, e, e2, e3, u)
			}
			if c, e := udp.Bytes(v, a.src, a.dst); !bytes.Equal(b, c) || e != api.OK {
				t.Errorf("P5.3: %x, %d, not %x", c, e, b)
			}
		}
	}
}

// Bytes of any kind, most of them no datagram.
func TestAnyBytes(t *testing.T) {
	state := uint32(1)
	draw := func(most int) int {
		state = state*1664525 + 1013904223
		return int(state>>8) % most
	}
	good := 0
	for i := range 200000 {
		a, b := pairs[i%len(pairs)], make([]byte, draw(24))
		for at := range b {
			b[at] = []byte{0, 1, 255, byte(draw(256))}[draw(4)]
		}
		if len(b) >= 8 && draw(4) > 0 {
			b[4], b[5] = 0, byte(len(b))
		}
		if len(b) >= 8 && draw(2) > 0 {
			b = sealed(b, a)
		}
		parses(t, "any bytes", b, a)
		if _, e := udp.Parse(b, a.src, a.dst); e == api.OK {
			good++
		}
	}
	if good < 10000 {
		t.Errorf("P5.2: only %d are datagrams", good)
	}
}

// R2: what is passed stays as it is, its spare capacity too, and what is
// answered stays as it is when that is altered.
func TestMemory(t *testing.T) {
	for _, a := range pairs {
		room := []byte("data and what stands behind it")
		b, _ := udp.Bytes(api.Udp{Src: 1, Dst: 2, Data: room[:4]}, a.src, a.dst)
		kept := slices.Clone(b)
		if string(room) != "data and what stands behind it" {
			t.Errorf("P5.1: Bytes altered its argument: %s", room)
		}
		clear(room)
		if !bytes.Equal(b, kept) {
			t.Error("P5.1: Bytes shares memory with its argument")
		}
		b = append(slices.Clone(kept), "behind"...)[:len(kept)]
		u, _ := udp.Parse(b, a.src, a.dst)
		if !bytes.Equal(b[:len(b)+6], append(slices.Clone(kept), "behind"...)) {
			t.Error("P5.2: Parse altered its argument")
		}
		clear(b[:len(b)+6])
		if string(u.Data) != "data" {
			t.Errorf("P5.2: Parse shares memory with its argument: %v", u)
		}
		_ = append(u.Data, "more"...)
		if string(b[:len(b)+6]) != strings.Repeat("\x00", len(b)+6) {
			t.Error("P5.2: what Parse answers has room in its argument")
		}
	}
}
