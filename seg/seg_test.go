package seg_test

import (
	"bytes"
	"encoding/binary"
	"math"
	"reflect"
	"slices"
	"strings"
	"testing"

	"redoubt/api"
	"redoubt/seg"
)

// pair is the addresses that a segment goes between.
type pair struct{ src, dst string }

// pairs are of both versions, with many different words and with equal ones.
var pairs = []pair{
	{"\x0a\x00\x00\x01", "\x0a\x00\x00\x02"},
	{"\xc0\xa8\xfe\x63", "\x7f\x13\x80\xf1"},
	{"\x00\x00\x00\x00", "\x00\x00\x00\x00"},
	{"\xff\xff\xff\xff", "\xff\xff\xff\xff"},
	{"\x20\x01\x0d\xb8\x00\x00\x00\x00\x00\x00\x00\x00\x00\x00\x00\x01", "\xfe\x80\x01\x02\x03\x04\x05\x06\x07\x08\x09\x0a\x0b\x0c\x0d\x0e"},
	{"\xfd\x12\x34\x56\x78\x9a\xbc\xde\xf0\x11\x22\x33\x44\x55\x66\x77", "\xff\x02\x00\x00\x00\x00\x00\x00\x00\x00\x00\x01\xff\x00\x11\x22"},
	{strings.Repeat("\x00", 16), strings.Repeat("\x00", 16)},
	{strings.Repeat("\xff", 16), strings.Repeat("\xff", 16)},
}

// unlike are addresses that are not of the same version.
var unlike = []pair{{}, {pairs[0].src, pairs[4].dst}, {pairs[4].src, pairs[0].dst}, {"12345", "12345"}, {"1234", ""}, {"", "1234"}}

// sample has another value in each field.
var sample = api.Seg{Src: 0x1234, Dst: 0x5678, Seq: 0x9abcdef0, Ack: 0x0fedcba9, Flags: 0xc3, Window: 0x8765, Urgent: 0x4321, Options: "\x02\x04\x05\xb4", Data: []byte("a stream's bytes")}

// total adds the big-endian words of b as plain numbers.
func total(b []byte) int {
	n := 0
	for i, x := range b {
		n += int(x) << (8 * (1 - i%2))
	}
	return n
}

// whole is the total of an encoding and its pseudo-header.
func whole(b []byte, a pair) int {
	return total([]byte(a.src)) + total([]byte(a.dst)) + 6 + len(b) + total(b)
}

// sealed is an encoding with its checksum put into it: told by one total of all
// words, not by steps.
func sealed(b []byte, a pair) []byte {
	b = slices.Clone(b)
	binary.BigEndian.PutUint16(b[16:], 0)
	n := whole(b, a) % 65535
	if n == 0 { // the total is not 0, for it holds the protocol
		n = 65535
	}
	binary.BigEndian.PutUint16(b[16:], uint16(65535-n))
	return b
}

// want is the encoding of a segment.
func want(s api.Seg, a pair) []byte {
	b := binary.BigEndian.AppendUint16(nil, uint16(s.Src))
	b = binary.BigEndian.AppendUint16(b, uint16(s.Dst))
	b = binary.BigEndian.AppendUint32(b, uint32(s.Seq))
	b = binary.BigEndian.AppendUint32(b, uint32(s.Ack))
	b = append(b, byte(80+len(s.Options)*4), byte(s.Flags))
	b = binary.BigEndian.AppendUint16(b, uint16(s.Window))
	b = append(b, 0, 0)
	b = binary.BigEndian.AppendUint16(b, uint16(s.Urgent))
	b = append(b, s.Options...)
	return sealed(append(b, s.Data...), a)
}

// told is what Parse has to answer.
func told(b []byte, a pair) (api.Seg, api.Errno) {
	if n := len(a.src); n != len(a.dst) || n != 4 && n != 16 {
		return api.Seg{}, api.ErrArg
	}
	if len(b) < 20 {
		return api.Seg{}, api.ErrMore
	}
	words := int(b[12]) / 16
	if len(b) < words*4 {
		return api.Seg{}, api.ErrMore
	}
	if len(b) > 65535 {
		return api.Seg{}, api.ErrLong
	}
	if words < 5 || b[12]%16 != 0 {
		return api.Seg{}, api.ErrForm
	}
	if whole(b, a)%65535 != 0 {
		return api.Seg{}, api.ErrSum
	}
	n := func(at int, size int) int {
		return int(binary.BigEndian.Uint64(append(make([]byte, 8-size), b[at:at+size]...)))
	}
	return api.Seg{
		Src: n(0, 2), Dst: n(2, 2), Seq: n(4, 4), Ack: n(8, 4), Flags: n(13, 1), Window: n(14, 2), Urgent: n(18, 2),
		Options: string(b[20 : words*4]), Data: slices.Clone(b[words*4:]),
	}, api.OK
}

// same reports whether two segments are equal; of no data there may be nil or
// an empty slice.
func same(s, u api.Seg) bool {
	if !bytes.Equal(s.Data, u.Data) {
		return false
	}
	s.Data, u.Data = nil, nil
	return reflect.DeepEqual(s, u)
}

// taken fails unless Check lets a segment be, Bytes answers its encoding, and
// Parse the segment of that.
func taken(t *testing.T, what string, s api.Seg, a pair) {
	t.Helper()
	if e := seg.Check(s); e != api.OK {
		t.Fatalf("P6.1: Check, %s: %d", what, e)
	}
	b, e := seg.Bytes(s, a.src, a.dst)
	if !bytes.Equal(b, want(s, a)) || e != api.OK {
		t.Fatalf("P6.1: Bytes, %s: %d bytes %.100x, %d, not %.100x", what, len(b), b, e, want(s, a))
	}
	if u, e := seg.Parse(want(s, a), a.src, a.dst); !same(s, u) || e != api.OK {
		t.Fatalf("P6.2: Parse, %s: %.200v, %d", what, u, e)
	}
}

// refused fails unless Check and Bytes answer an error, and no bytes.
func refused(t *testing.T, what string, s api.Seg, a pair, want api.Errno) {
	t.Helper()
	if e := seg.Check(s); e != want {
		t.Fatalf("P6.1: Check, %s: %d, not %d", what, e, want)
	}
	noBytes(t, what, s, a, want)
}

// noBytes fails unless Bytes answers an error, and no bytes.
func noBytes(t *testing.T, what string, s api.Seg, a pair, want api.Errno) {
	t.Helper()
	if b, e := seg.Bytes(s, a.src, a.dst); len(b) != 0 || e != want {
		t.Fatalf("P6.1: Bytes, %s: %d bytes, %d, not %d", what, len(b), e, want)
	}
}

// noSegment fails unless Parse answers an error, and nothing else.
func noSegment(t *testing.T, what string, b []byte, a pair, want api.Errno) {
	t.Helper()
	if s, e := seg.Parse(b, a.src, a.dst); !reflect.DeepEqual(s, api.Seg{}) || e != want {
		t.Fatalf("P6.2: Parse, %s: %.200v, %d, not %d: %.100x", what, s, e, want, b)
	}
}

// parses fails unless Parse answers what told tells, and Bytes then the same
// bytes again; the checksum may be the other one of 0 and 65535.
func parses(t *testing.T, what string, b []byte, a pair) {
	t.Helper()
	s, e := told(b, a)
	if e != api.OK {
		noSegment(t, what, b, a, e)
		return
	}
	u, e := seg.Parse(b, a.src, a.dst)
	if e != api.OK || !same(s, u) {
		t.Fatalf("P6.2: Parse, %s: %.200v, %d: %.100x", what, u, e, b)
	}
	c, e := seg.Bytes(u, a.src, a.dst)
	if e != api.OK || !bytes.Equal(c, sealed(b, a)) {
		t.Fatalf("P6.4: %s: %.100x, %d, not %.100x", what, c, e, b)
	}
	if field := binary.BigEndian.Uint16(b[16:]); !bytes.Equal(b, c) && field != 0 && field != 65535 {
		t.Fatalf("P6.4: %s: another checksum than %d", what, field)
	}
}

func TestBytes(t *testing.T) {
	zero4, zero6 := strings.Repeat("\x00", 4), strings.Repeat("\x00", 16)
	synAck := api.Seg{Src: 0x1234, Dst: 80, Seq: 0xdeadbeef, Ack: 0x01020304, Flags: api.Syn | api.Ack, Window: 4096, Urgent: 7, Options: "\x02\x04\x05\xb4", Data: []byte("data!")}
	greatest := api.Seg{Src: 65535, Dst: 65535, Seq: math.MaxUint32, Ack: math.MaxUint32, Flags: 255, Window: 65535, Urgent: 65535, Options: strings.Repeat("\xff", 40)}
	for _, x := range []struct {
		s    api.Seg
		a    pair
		text string
	}{
		{api.Seg{}, pair{zero4, zero4}, strings.Repeat("\x00", 12) + "\x50\x00\x00\x00\xaf\xe5\x00\x00"},
		{api.Seg{}, pair{zero6, zero6}, strings.Repeat("\x00", 12) + "\x50\x00\x00\x00\xaf\xe5\x00\x00"},
		{api.Seg{Urgent: 0xafe5}, pair{zero4, zero4}, strings.Repeat("\x00", 12) + "\x50\x00\x00\x00\x00\x00\xaf\xe5"},
		{synAck, pairs[0], "\x12\x34\x00\x50\xde\xad\xbe\xef\x01\x02\x03\x04\x60\x12\x10\x00\xc6\x1d\x00\x07\x02\x04\x05\xb4data!"},
		{synAck, pairs[4], "\x12\x34\x00\x50\xde\xad\xbe\xef\x01\x02\x03\x04\x60\x12\x10\x00\x7c\xad\x00\x07\x02\x04\x05\xb4data!"},
		{greatest, pairs[1], strings.Repeat("\xff", 12) + "\xf0\xff\xff\xff\x4f\xac\xff\xff" + strings.Repeat("\xff", 40)},
	} {
		if b, e := seg.Bytes(x.s, x.a.src, x.a.dst); string(b) != x.text || e != api.OK {
			t.Errorf("P6.1: Bytes of %v: %x, %d, not %x", x.s, b, e, x.text)
		}
		if s, e := seg.Parse([]byte(x.text), x.a.src, x.a.dst); !same(s, x.s) || e != api.OK {
			t.Errorf("P6.2: Parse of %x: %v, %d, not %v", x.text, s, e, x.s)
		}
	}
}

// Each field at values that it may have, the least and the greatest among them,
// and at values that it may not have.
func TestFields(t *testing.T) {
	for _, f := range []struct {
		name string
		most int
		at   func(s *api.Seg) *int
	}{
		{"Src", math.MaxUint16, func(s *api.Seg) *int { return &s.Src }},
		{"Dst", math.MaxUint16, func(s *api.Seg) *int { return &s.Dst }},
		{"Seq", math.MaxUint32, func(s *api.Seg) *int { return &s.Seq }},
		{"Ack", math.MaxUint32, func(s *api.Seg) *int { return &s.Ack }},
		{"Flags", math.MaxUint8, func(s *api.Seg) *int { return &s.Flags }},
		{"Window", math.MaxUint16, func(s *api.Seg) *int { return &s.Window }},
		{"Urgent", math.MaxUint16, func(s *api.Seg) *int { return &s.Urgent }},
	} {
		for i, a := range pairs {
			for _, n := range []int{0, 1, 2, 127, 128, 254, 255, 256, 32767, 32768, 65534, 65535, 65536, 0x7fffffff, 0x80000000, 0xfffffffe, 0xffffffff} {
				for _, s := range []api.Seg{sample, {}} {
					if *f.at(&s) = n; n <= f.most {
						taken(t, f.name, s, a)
					} else {
						refused(t, f.name, s, a, api.ErrArg)
					}
				}
			}
			for _, n := range []int{-1, -2, -255, -256, -65535, -65536, -1 << 32, f.most + 1, f.most + 2, 2*f.most + 1, 2*f.most + 2, 1<<32 + 1, 1 << 40, math.MaxInt64, math.MinInt64, math.MinInt64 + 1} {
				for _, s := range []api.Seg{sample, {}} {
					*f.at(&s) = n
					refused(t, f.name, s, a, api.ErrArg)
					s.Data = make([]byte, 65536)
					refused(t, f.name+" beside too much data", s, a, api.ErrArg)
					noBytes(t, f.name+" beside wrong addresses", s, unlike[i%len(unlike)], api.ErrArg)
				}
			}
		}
	}
}

// Each byte of flags, beside each of the other fields' bits.
func TestFlags(t *testing.T) {
	for n := range 256 {
		for _, a := range pairs {
			s := sample
			s.Flags = n
			taken(t, "flags", s, a)
			taken(t, "flags alone", api.Seg{Flags: n}, a)
			taken(t, "flags beside all bits", api.Seg{Src: 65535, Dst: 65535, Seq: math.MaxUint32, Ack: math.MaxUint32, Flags: n, Window: 65535, Urgent: 65535, Options: strings.Repeat("\xff", 40)}, a)
		}
	}
}

// Options have whole words, and 10 at most, whatever their bytes are.
func TestOptionLengths(t *testing.T) {
	for _, a := range pairs {
		for n := range 70 {
			for _, text := range []string{"\x00", "\x01", "\x02", "\xff", "\x02\x04\x05\xb4\x01"} {
				s := sample
				s.Options = strings.Repeat(text, n)[:n]
				if n <= 40 && n%4 == 0 {
					taken(t, "options", s, a)
					continue
				}
				refused(t, "options", s, a, api.ErrArg)
				s.Data = make([]byte, 65536)
				refused(t, "options beside too much data", s, a, api.ErrArg)
			}
		}
		for _, n := range []int{256, 1024, 65516, 65536, 131072} {
			refused(t, "many options", api.Seg{Options: strings.Repeat("\x01", n)}, a, api.ErrArg)
		}
	}
}

// Addresses are both of 4 or both of 16 bytes, whatever else is passed.
func TestAddresses(t *testing.T) {
	long := strings.Repeat("\x07", 40)
	for i := range len(long) + 1 {
		for j := range len(long) + 1 {
			a := pair{long[:i], long[:j]}
			if i == j && (i == 4 || i == 16) {
				taken(t, "addresses", sample, a)
				continue
			}
			noBytes(t, "addresses", sample, a, api.ErrArg)
			noBytes(t, "addresses beside too much data", api.Seg{Data: make([]byte, 65516)}, a, api.ErrArg)
			noBytes(t, "addresses beside a wrong field", api.Seg{Src: -1}, a, api.ErrArg)
			noSegment(t, "addresses", want(sample, a), a, api.ErrArg)
			noSegment(t, "addresses, no bytes", nil, a, api.ErrArg)
		}
	}
}

// An encoding has 65535 bytes at most, of which the options are some.
func TestLengths(t *testing.T) {
	for i, a := range pairs {
		for n := range 100 {
			taken(t, "short data", api.Seg{Src: n, Data: bytes.Repeat([]byte{0xf1}, n)}, a)
		}
		for n := 0; n <= 40; n += 4 {
			options, most := strings.Repeat("\x01", n), 65515-n
			for _, size := range []int{0, 1, 1460, most - 2, most - 1, most} {
				taken(t, "long data", api.Seg{Seq: 65535, Options: options, Data: bytes.Repeat([]byte{byte(i * 0x5a)}, size)}, a)
			}
			for _, size := range []int{most + 1, most + 2, 65535, 65536, 131072, 1 << 20} {
				s := api.Seg{Options: options, Data: make([]byte, size)}
				refused(t, "too much data", s, a, api.ErrLong)
				noBytes(t, "too much data beside wrong addresses", s, unlike[i%len(unlike)], api.ErrArg)
			}
		}
	}
	if b, e := seg.Bytes(api.Seg{Data: make([]byte, 65515)}, pairs[0].src, pairs[0].dst); len(b) != 65535 || e != api.OK {
		t.Errorf("P6.1: data of 65515 bytes: %d bytes, %d", len(b), e)
	}
}

// Each sum that a segment may have, 65535 among them: the checksum of that is 0.
func TestChecksums(t *testing.T) {
	for _, a := range pairs {
		none := 0
		for n := range 65536 {
			s := api.Seg{Src: 0x1234, Dst: 0x5678, Flags: api.Ack, Urgent: n}
			taken(t, "a sum", s, a)
			b := want(s, a)
			if b[16] == 255 && b[17] == 255 {
				t.Errorf("P6.1: a checksum of 65535: %x", b)
			}
			if b[16] == 0 && b[17] == 0 {
				none++
			}
		}
		if none == 0 {
			t.Errorf("P6.1: between %x and %x no checksum is 0", a.src, a.dst)
		}
	}
}

// Each checksum field: one is right, and where that is 0 so is 65535.
func TestParseChecksums(t *testing.T) {
	for _, a := range pairs {
		none := api.Seg{Dst: 1}
		none.Urgent = int(binary.BigEndian.Uint16(want(none, a)[16:]))
		if b := want(none, a); b[16] != 0 || b[17] != 0 {
			t.Fatalf("between %x and %x the checksum is not 0: %x", a.src, a.dst, b)
		}
		for i, s := range []api.Seg{sample, none} {
			b, right := want(s, a), 0
			for n := range 65536 {
				binary.BigEndian.PutUint16(b[16:], uint16(n))
				parses(t, "a checksum field", b, a)
				if u, e := seg.Parse(b, a.src, a.dst); e == api.OK && same(u, s) {
					right++
				}
			}
			if right != i+1 {
				t.Errorf("P6.2: %d checksum fields between %x and %x are right, not %d", right, a.src, a.dst, i+1)
			}
		}
		b := want(none, a)
		b[16], b[17] = 255, 255
		s, e := seg.Parse(b, a.src, a.dst)
		c, e2 := seg.Bytes(s, a.src, a.dst)
		if e != api.OK || e2 != api.OK || !bytes.Equal(c, want(none, a)) {
			t.Errorf("P6.4: a checksum field of 65535: %v, %d, %x, %d", s, e, c, e2)
		}
	}
}

// Each header length, and each of the four bits beside it, of encodings with
// fewer bytes than that, as many, and more.
func TestParseHeaderLength(t *testing.T) {
	for _, a := range pairs {
		for n := range 256 {
			for _, size := range []int{0, 1, 12, 13, 19, 20, 21, 23, 24, 25, 39, 40, 55, 56, 57, 59, 60, 61, 64, 100} {
				b := bytes.Repeat([]byte{0x11}, size)
				if size > 12 {
					b[12] = byte(n)
				}
				parses(t, "a header length, no checksum", b, a)
				if size < 20 || size < n/16*4 {
					noSegment(t, "a header length that is too much", b, a, api.ErrMore)
					continue
				}
				b = sealed(b, a)
				parses(t, "a header length", b, a)
				if n < 80 || n%16 != 0 {
					noSegment(t, "a header length that has no form", b, a, api.ErrForm)
					continue
				}
				if s, e := seg.Parse(b, a.src, a.dst); len(s.Options) != n/4-20 || len(s.Data) != size-n/4 || e != api.OK {
					t.Errorf("P6.2: header length %d of %d bytes: %v, %d", n/4, size, s, e)
				}
			}
		}
	}
}

func TestParseCutOff(t *testing.T) {
	for _, a := range pairs {
		for options := 0; options <= 40; options += 4 {
			s := sample
			s.Options = strings.Repeat("\x01\x02\x03\x04", 10)[:options]
			for _, size := range []int{0, 1, 2, 9, 10} {
				s.Data = bytes.Repeat([]byte{0xa5}, size)
				b := want(s, a)
				for n := range len(b) {
					if n < 20+options {
						noSegment(t, "cut off", b[:n], a, api.ErrMore)
					} else {
						parses(t, "data cut off", b[:n], a)
						noSegment(t, "data cut off", b[:n], a, api.ErrSum)
					}
				}
				for more := 1; more < 20; more++ {
					c := append(slices.Clone(b), make([]byte, more)...)
					parses(t, "with bytes behind it", c, a)
					noSegment(t, "with bytes behind it", c, a, api.ErrSum)
				}
			}
		}
		noSegment(t, "nil", nil, a, api.ErrMore)
		noSegment(t, "none", []byte{}, a, api.ErrMore)
	}
}

func TestParseTooLong(t *testing.T) {
	for _, a := range pairs {
		for _, options := range []string{"", strings.Repeat("\x01", 40)} {
			s := api.Seg{Options: options, Data: make([]byte, 65515-len(options))}
			b := want(s, a)
			parses(t, "65535 bytes", b, a)
			for _, more := range []int{1, 2, 3, 65535, 65536, 1 << 20} {
				noSegment(t, "too many bytes", append(slices.Clone(b), make([]byte, more)...), a, api.ErrLong)
			}
			// A checksum that would hold does not make it shorter.
			for _, size := range []int{65536, 65537, 131070, 131072} {
				c := append(slices.Clone(b[:20+len(options)]), make([]byte, size-20-len(options))...)
				noSegment(t, "too many bytes, sealed", sealed(c, a), a, api.ErrLong)
			}
		}
	}
}

// Of several faults the first one in the order of the promise is told.
func TestParseOrder(t *testing.T) {
	type turn = func(b []byte) []byte
	cut := func(b []byte) []byte { return b[:19] }
	more := func(b []byte) []byte { b[12] = 0xf0 | b[12]&15; return b }
	less := func(b []byte) []byte { b[12] = 0x40 | b[12]&15; return b }
	bits := func(b []byte) []byte { b[12] |= 1; return b }
	long := func(b []byte) []byte { return append(b, make([]byte, 65536-len(b))...) }
	sum := func(b []byte) []byte { b[0] ^= 1; return b }
	for _, x := range []struct {
		what  string
		turns []turn
		want  api.Errno
	}{
		{"cut off before the checksum", []turn{sum, cut}, api.ErrMore},
		{"cut off before a header length of less", []turn{less, cut}, api.ErrMore},
		{"cut off before low bits", []turn{bits, cut}, api.ErrMore},
		{"a header length of more before low bits", []turn{bits, more}, api.ErrMore},
		{"a header length of more before the checksum", []turn{more, sum}, api.ErrMore},
		{"too many bytes before a header length of less", []turn{less, long}, api.ErrLong},
		{"too many bytes before low bits", []turn{bits, long}, api.ErrLong},
		{"too many bytes before the checksum", []turn{sum, long}, api.ErrLong},
		{"a header length of less before the checksum", []turn{less, sum}, api.ErrForm},
		{"low bits before the checksum", []turn{bits, sum}, api.ErrForm},
		{"a header length of less and low bits", []turn{bits, less}, api.ErrForm},
		{"the checksum", []turn{sum}, api.ErrSum},
	} {
		for _, a := range pairs {
			b := want(sample, a)
			for _, turn := range x.turns {
				b = turn(b)
			}
			noSegment(t, x.what, b, a, x.want)
			noSegment(t, x.what+", an address too long", b, pair{a.src, a.dst + "\x00"}, api.ErrArg)
			for _, wrong := range unlike {
				noSegment(t, x.what+", wrong addresses", b, wrong, api.ErrArg)
			}
		}
	}
}

// Each byte of a segment, and each byte of its addresses, at each value.
func TestAltered(t *testing.T) {
	for _, a := range pairs {
		for _, data := range []string{"", "odd", "\x00\xff"} {
			for _, options := range []string{"", "\x02\x04\x05\xb4", strings.Repeat("\x01", 40)} {
				s := sample
				s.Options, s.Data = options, []byte(data)
				b := want(s, a)
				for at := range b {
					for n := range 256 {
						c := slices.Clone(b)
						c[at] = byte(n)
						parses(t, "a byte altered", c, a)
						if at < 16 || at > 17 {
							parses(t, "a byte altered and sealed", sealed(c, a), a)
						}
					}
				}
				for at := range len(a.src) {
					for n := range 256 {
						parses(t, "src altered", b, pair{a.src[:at] + string([]byte{byte(n)}) + a.src[at+1:], a.dst})
						parses(t, "dst altered", b, pair{a.src, a.dst[:at] + string([]byte{byte(n)}) + a.dst[at+1:]})
					}
				}
			}
		}
	}
}

// A bit that is altered anywhere is noticed.
func TestAlteredBit(t *testing.T) {
	for _, a := range pairs {
		b := want(sample, a)
		for at := range b {
			for bit := range 8 {
				c := slices.Clone(b)
				c[at] ^= 1 << bit
				if s, e := seg.Parse(c, a.src, a.dst); e == api.OK || !reflect.DeepEqual(s, api.Seg{}) {
					t.Errorf("P6.2: bit %d of byte %d altered: %v, %d", bit, at, s, e)
				}
			}
		}
	}
}

// A segment comes back, from either end's point of view.
func TestThereAndBack(t *testing.T) {
	for _, a := range pairs {
		for i := range 5000 {
			s := api.Seg{
				Src: i * 7919 % 65536, Dst: 65535 - i*31%65536, Seq: i * 2654435761 % (1 << 32), Ack: math.MaxUint32 - i*40503%(1<<32),
				Flags: i % 256, Window: i * 12289 % 65536, Urgent: i * 257 % 65536,
				Options: strings.Repeat(string([]byte{byte(i), byte(i >> 3), 1, 2}), i%11),
				Data:    bytes.Repeat([]byte{byte(i), byte(i * 37), byte(i >> 4)}, i%50)[:i%50],
			}
			b, e := seg.Bytes(s, a.src, a.dst)
			u, e2 := seg.Parse(b, a.src, a.dst)
			v, e3 := seg.Parse(b, a.dst, a.src)
			if e != api.OK || e2 != api.OK || e3 != api.OK || !same(s, u) || !same(s, v) {
				t.Errorf("P6.4: %v, %v, %d, %d, %d, not %v", u, v, e, e2, e3, s)
			}
			if c, e := seg.Bytes(u, a.src, a.dst); !bytes.Equal(b, c) || e != api.OK {
				t.Errorf("P6.4: %x, %d, not %x", c, e, b)
			}
		}
	}
}

// Bytes of any kind, most of them no segment.
func TestAnyBytes(t *testing.T) {
	state := uint32(1)
	draw := func(most int) int {
		state = state*1664525 + 1013904223
		return int(state>>8) % most
	}
	good := 0
	for i := range 200000 {
		a, b := pairs[i%len(pairs)], make([]byte, draw(70))
		for at := range b {
			b[at] = []byte{0, 1, 255, byte(draw(256))}[draw(4)]
		}
		if len(b) >= 20 && draw(4) > 0 {
			b[12] = byte(draw(16) * 16)
		}
		if len(b) >= 20 && draw(4) > 0 {
			b = sealed(b, a)
		}
		parses(t, "any bytes", b, a)
		if _, e := seg.Parse(b, a.src, a.dst); e == api.OK {
			good++
		}
	}
	if good < 10000 {
		t.Errorf("P6.2: only %d are segments", good)
	}
}

// Each offer, and what it is taken for.
func TestOffers(t *testing.T) {
	for n := 1; n <= 65535; n++ {
		text := "\x02\x04" + string([]byte{byte(n / 256), byte(n % 256)})
		if seg.Offer(n) != text {
			t.Errorf("P6.3: Offer(%d): %x", n, seg.Offer(n))
		}
		if m, e := seg.Mss(text); m != n || e != api.OK {
			t.Errorf("P6.3: Mss(%x): %d, %d", text, m, e)
		}
		if m, e := seg.Mss(seg.Offer(n)); m != n || e != api.OK {
			t.Errorf("P6.4: Mss(Offer(%d)): %d, %d", n, m, e)
		}
	}
	for _, n := range []int{0, -1, -2, -1460, -65535, -65536, 65536, 65537, 66996, 131071, 1 << 31, 1<<32 + 1460, math.MaxInt64, math.MinInt64, math.MinInt64 + 1} {
		if s := seg.Offer(n); s != "" {
			t.Errorf("P6.3: Offer(%d): %x", n, s)
		}
	}
}

func TestMss(t *testing.T) {
	for _, x := range []struct {
		text string
		want int
		e    api.Errno
	}{
		{"", 0, api.ErrNone},
		{"\x00", 0, api.ErrNone},
		{"\x01", 0, api.ErrNone},
		{"\x01\x01\x01\x01", 0, api.ErrNone},
		{"\x02\x04\x05\xb4", 1460, api.OK},
		{"\x02\x04\x00\x00", 0, api.OK},
		{"\x02\x04\xff\xff", 65535, api.OK},
		{"\x01\x02\x04\x05\xb4", 1460, api.OK},
		{"\x03\x03\x07\x02\x04\x05\xb4", 1460, api.OK},
		{"\x02\x04\x05\xb4\x02\x04\x00\x07", 1460, api.OK}, // the first one
		{"\x03\x02\x01\x02\x04\x05\xb4\x00", 1460, api.OK}, // a length of 2
		{"\x03\x04\x02\x04\x02\x04\x05\xb4", 1460, api.OK}, // an option that looks like it in another one
		{"\xff\x06\x02\x04\x05\xb4", 0, api.ErrNone},       // nothing but that
		{"\x01\x04\x05\xb4", 0, api.ErrForm},               // a kind that has no length
		{"\x02\x02\x02\x04\x05\xb4", 1460, api.OK},         // of kind 2 with other lengths
		{"\x02\x03\x09\x02\x04\x05\xb4", 1460, api.OK},     //
		{"\x02\x05\x09\x09\x09\x02\x04\x05\xb4", 1460, api.OK},
		{"\x02\x02", 0, api.ErrNone},
		{"\x02\x03\x05", 0, api.ErrNone},
		{"\x02\x05\x05\xb4\x05", 0, api.ErrNone},
		{"\x04\x04\x05\xb4", 0, api.ErrNone}, // another kind with length 4
		{"\x00\x02\x04\x05\xb4", 0, api.ErrNone},
		{"\x00\x02", 0, api.ErrNone}, // behind the end anything may stand
		{"\x01\x00\x02\x00", 0, api.ErrNone},
		{"\x02\x04\x05\xb4\x00\x02", 1460, api.OK},
		{"\x02\x04\x05\xb4\x00\x03\x00", 1460, api.OK},
		{"\x02\x04\x05\xb4\x00\x02\x04\x00\x07", 1460, api.OK},
		{"\x02", 0, api.ErrForm}, // the length is missing
		{"\xff", 0, api.ErrForm},
		{"\x01\x03", 0, api.ErrForm},
		{"\x02\x00", 0, api.ErrForm}, // it is less than 2
		{"\x02\x01", 0, api.ErrForm},
		{"\x03\x00\x02\x04\x05\xb4", 0, api.ErrForm},
		{"\x03\x01\x02\x04\x05\xb4", 0, api.ErrForm},
		{"\x02\x03", 0, api.ErrForm}, // it is too great
		{"\x02\x04", 0, api.ErrForm},
		{"\x02\x04\x05", 0, api.ErrForm},
		{"\x02\xff\x05\xb4", 0, api.ErrForm},
		{"\x03\x05\x05\xb4", 0, api.ErrForm},
		{"\x02\x04\x05\xb4\x03", 0, api.ErrForm}, // behind the offer
		{"\x02\x04\x05\xb4\x01\x02", 0, api.ErrForm},
		{"\x02\x04\x05\xb4\x03\x00", 0, api.ErrForm},
		{"\x02\x04\x05\xb4\x03\x01", 0, api.ErrForm},
		{"\x02\x04\x05\xb4\x03\x03", 0, api.ErrForm},
		{"\x02\x04\x05\xb4\x02\x04\x05", 0, api.ErrForm},
	} {
		if n, e := seg.Mss(x.text); n != x.want || e != x.e {
			t.Errorf("P6.3: Mss(%x): %d, %d, not %d, %d", x.text, n, e, x.want, x.e)
		}
	}
}

// offered is what Mss has to answer: what stands behind the first option is
// asked first, so that a fault there is found before an offer here.
func offered(s string) (int, api.Errno) {
	if s == "" || s[0] == 0 {
		return 0, api.ErrNone
	}
	if s[0] == 1 {
		return offered(s[1:])
	}
	if len(s) == 1 || s[1] == 0 || s[1] == 1 || len(s) < int(s[1]) {
		return 0, api.ErrForm
	}
	n, e := offered(s[s[1]:])
	if e != api.ErrForm && s[0] == 2 && s[1] == 4 {
		return int(s[2])*256 + int(s[3]), api.OK
	}
	return n, e
}

// All short options of some bytes.
func TestShortOptions(t *testing.T) {
	counts := map[api.Errno]int{}
	var extend func(s string, bytes string, most int)
	extend = func(s string, bytes string, most int) {
		want, e := offered(s)
		counts[e]++
		if n, e2 := seg.Mss(s); n != want || e2 != e {
			t.Errorf("P6.3: Mss(%x): %d, %d, not %d, %d", s, n, e2, want, e)
		}
		for i := 0; i < len(bytes) && len(s) < most; i++ {
			extend(s+bytes[i:i+1], bytes, most)
		}
	}
	extend("", "\x00\x01\x02\x03\x04\x05\xff", 6)
	extend("", "\x00\x01\x02\x04", 9)
	for _, e := range []api.Errno{api.OK, api.ErrForm, api.ErrNone} {
		if counts[e] < 1000 {
			t.Errorf("P6.3: only %d are %d", counts[e], e)
		}
	}
}

// Each byte of options at each value, and options that are cut off.
func TestAlteredOptions(t *testing.T) {
	for _, s := range []string{"\x02\x04\x05\xb4", "\x01\x01\x03\x03\x07\x02\x04\x05\xb4\x04\x02\x00\xff", "\x08\x0a12345678\x01\x01\x02\x04\x02\x18\x02\x04\x05\xb4"} {
		for at := range len(s) {
			for n := range 256 {
				for _, c := range []string{s[:at] + string([]byte{byte(n)}) + s[at+1:], s[:at] + string([]byte{byte(n)}), s[:at]} {
					want, e := offered(c)
					if m, e2 := seg.Mss(c); m != want || e2 != e {
						t.Errorf("P6.3: Mss(%x): %d, %d, not %d, %d", c, m, e2, want, e)
					}
				}
			}
		}
	}
}

// More options than a segment can have.
func TestLongOptions(t *testing.T) {
	for _, fill := range []string{"\x01", "\x03\x02", "\x02\x03\x00", "\x04\xff" + strings.Repeat("\x02\x04\x05", 84) + "x"} {
		long := strings.Repeat(fill, 20000)
		for _, x := range []struct {
			text string
			want int
			e    api.Errno
		}{
			{long, 0, api.ErrNone},
			{long + "\x02\x04\x05\xb4", 1460, api.OK},
			{"\x02\x04\x05\xb4" + long, 1460, api.OK},
			{"\x02\x04\x05\xb4" + long + "\x03", 0, api.ErrForm},
			{"\x02\x04\x05\xb4" + long + "\x00\x03", 1460, api.OK},
			{"\x00" + long + "\x02\x04\x05\xb4\x03", 0, api.ErrNone},
		} {
			if n, e := seg.Mss(x.text); n != x.want || e != x.e {
				t.Errorf("P6.3: %d bytes of options, with %x: %d, %d, not %d, %d", len(x.text), fill, n, e, x.want, x.e)
			}
		}
	}
}

// Length counts the data and the two lowest bits of any Flags, whether the
// segment is valid or not.
func TestLength(t *testing.T) {
	flags := []int{math.MinInt64, math.MinInt64 + 1, math.MinInt64 + 2, math.MinInt64 + 3, math.MaxInt64, math.MaxInt64 - 1, math.MaxInt64 - 2, math.MaxInt64 - 3, 1 << 32, 1<<32 + 1, 1<<32 + 2, 1<<32 + 3}
	for n := -1000; n <= 1000; n++ {
		flags = append(flags, n)
	}
	for _, n := range flags {
		for _, size := range []int{0, 1, 2, 3, 1460, 65515, 65516, 70000} {
			want := size + []int{0, 1, 1, 2}[((n%4)+4)%4]
			for _, s := range []api.Seg{{}, sample, {Src: -1, Seq: -1, Options: "abc", Urgent: 65536}} {
				s.Flags, s.Data = n, make([]byte, size)
				if m := seg.Length(s); m != want {
					t.Errorf("P6.1: Length, Flags %d, %d bytes: %d, not %d", n, size, m, want)
				}
			}
		}
	}
	if n := seg.Length(api.Seg{Flags: api.Syn, Data: []byte("abc")}); n != 4 {
		t.Errorf("P6.1: Length of Syn and 3 bytes: %d", n)
	}
	if n := seg.Length(api.Seg{Flags: api.Rst | api.Psh | api.Ack | api.Urg}); n != 0 {
		t.Errorf("P6.1: Length of other flags: %d", n)
	}
}

// R2: what is passed stays as it is, its spare capacity too, and what is
// answered stays as it is when that is altered.
func TestMemory(t *testing.T) {
	for _, a := range pairs {
		room := []byte("data and what stands behind it")
		s := sample
		s.Data = room[:4]
		seg.Check(s)
		seg.Length(s)
		b, _ := seg.Bytes(s, a.src, a.dst)
		kept := slices.Clone(b)
		if string(room) != "data and what stands behind it" {
			t.Errorf("P6.1: Bytes altered its argument: %s", room)
		}
		clear(room)
		if !bytes.Equal(b, kept) {
			t.Error("P6.1: Bytes shares memory with its argument")
		}
		b = append(slices.Clone(kept), "behind"...)[:len(kept)]
		u, _ := seg.Parse(b, a.src, a.dst)
		if !bytes.Equal(b[:len(b)+6], append(slices.Clone(kept), "behind"...)) {
			t.Error("P6.2: Parse altered its argument")
		}
		clear(b[:len(b)+6])
		if string(u.Data) != "data" || u.Options != sample.Options {
			t.Errorf("P6.2: Parse shares memory with its argument: %v", u)
		}
		_ = append(u.Data, "more"...)
		if string(b[:len(b)+6]) != strings.Repeat("\x00", len(b)+6) {
			t.Error("P6.2: what Parse answers has room in its argument")
		}
	}
}
