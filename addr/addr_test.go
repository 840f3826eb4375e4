package addr_test

import (
	"fmt"
	"math"
	"net/netip"
	"strings"
	"testing"

	"redoubt/addr"
	"redoubt/api"
)

// of is the 16-byte address of eight groups.
func of(groups ...int) string {
	var b []byte
	for _, g := range groups {
		b = append(b, byte(g>>8), byte(g))
	}
	return string(b)
}

// addresses are many addresses of both versions, the same in each run: each
// pattern of zero groups with small and with great groups between, and 4-byte ones.
func addresses() []string {
	var out []string
	for pattern := range 256 {
		small, great := make([]int, 8), make([]int, 8)
		for i := range 8 {
			if pattern>>i&1 != 0 {
				small[i], great[i] = i+1, 0xffff-0x1111*i
			}
		}
		out = append(out, of(small...), of(great...))
	}
	seed := uint32(7)
	for _, edge := range []byte{0, 1, 9, 10, 99, 100, 127, 128, 199, 200, 254, 255} {
		for at := range 4 {
			seed = seed*1664525 + 1013904223
			b := []byte{byte(seed >> 24), byte(seed >> 16), 0, 255}
			b[at] = edge
			out = append(out, string(b))
		}
	}
	return append(out, "\x00\x00\x00\x00", "\xff\xff\xff\xff")
}

// wrongSizes are strings that are no addresses, by their lengths.
func wrongSizes() []string {
	var out []string
	for n := range 40 {
		if n != 4 && n != 16 {
			out = append(out, strings.Repeat("\x01", n))
		}
	}
	return append(out, strings.Repeat("\x01", 1000))
}

func TestCanonicalTexts(t *testing.T) {
	for _, x := range []struct{ text, a string }{
		{"0.0.0.0", "\x00\x00\x00\x00"},
		{"10.0.0.1", "\x0a\x00\x00\x01"},
		{"1.2.3.4", "\x01\x02\x03\x04"},
		{"9.99.100.199", "\x09\x63\x64\xc7"},
		{"255.255.255.255", "\xff\xff\xff\xff"},
		{"::", of(0, 0, 0, 0, 0, 0, 0, 0)},
		{"::1", of(0, 0, 0, 0, 0, 0, 0, 1)},
		{"1::", of(1, 0, 0, 0, 0, 0, 0, 0)},
		{"1::8", of(1, 0, 0, 0, 0, 0, 0, 8)},
		{"1:2:3:4:5:6:7:8", of(1, 2, 3, 4, 5, 6, 7, 8)},
		{"2001:db8::1:0:0:1", of(0x2001, 0xdb8, 0, 0, 1, 0, 0, 1)},
		{"2001:db8:0:0:1::", of(0x2001, 0xdb8, 0, 0, 1, 0, 0, 0)},
		{"1:0:0:4::8", of(1, 0, 0, 4, 0, 0, 0, 8)},
		{"::4:0:0:0:8", of(0, 0, 0, 4, 0, 0, 0, 8)},
		{"::3:0:0:6:0:0", of(0, 0, 3, 0, 0, 6, 0, 0)},
		{"0:2::5:6:7:8", of(0, 2, 0, 0, 5, 6, 7, 8)},
		{"::3:4:5:6:7:8", of(0, 0, 3, 4, 5, 6, 7, 8)},
		{"1:2:3:4:5:6::", of(1, 2, 3, 4, 5, 6, 0, 0)},
		{"0:2:3:4:5:6:7:8", of(0, 2, 3, 4, 5, 6, 7, 8)},
		{"1:2:3:4:5:6:7:0", of(1, 2, 3, 4, 5, 6, 7, 0)},
		{"0:2:0:4:0:6:0:8", of(0, 2, 0, 4, 0, 6, 0, 8)},
		{"1:0:3:4:5:6:7:8", of(1, 0, 3, 4, 5, 6, 7, 8)},
		{"a:bc:def:abcd:10:100:1000:f", of(0xa, 0xbc, 0xdef, 0xabcd, 0x10, 0x100, 0x1000, 0xf)},
		{"ffff:ffff:ffff:ffff:ffff:ffff:ffff:ffff", strings.Repeat("\xff", 16)},
		{"::ffff:102:304", of(0, 0, 0, 0, 0, 0xffff, 0x102, 0x304)},
	} {
		if a, e := addr.Parse(x.text); a != x.a || e != api.OK {
			t.Errorf("P2.1: Parse(%q) = %x, %d, not %x", x.text, a, e, x.a)
		}
		if s, e := addr.Print(x.a); s != x.text || e != api.OK {
			t.Errorf("P2.1: Print(%x) = %q, %d, not %q", x.a, s, e, x.text)
		}
	}
}

func TestOtherTexts(t *testing.T) {
	for _, x := range []struct{ text, a string }{
		{"0:0:0:0:0:0:0:0", of(0, 0, 0, 0, 0, 0, 0, 0)},
		{"0000:0000:0000:0000:0000:0000:0000:0000", of(0, 0, 0, 0, 0, 0, 0, 0)},
		{"0001:0020:0300:4000:005:06:7:0008", of(1, 0x20, 0x300, 0x4000, 5, 6, 7, 8)},
		{"ABCD:Ef01:aBcD::F", of(0xabcd, 0xef01, 0xabcd, 0, 0, 0, 0, 0xf)},
		{"2001:0DB8:0:0:1::1", of(0x2001, 0xdb8, 0, 0, 1, 0, 0, 1)},
		{"2001:db8:0:0:1:0:0:1", of(0x2001, 0xdb8, 0, 0, 1, 0, 0, 1)},
		{"::2:3:4:5:6:7:8", of(0, 2, 3, 4, 5, 6, 7, 8)},
		{"1::3:4:5:6:7:8", of(1, 0, 3, 4, 5, 6, 7, 8)},
		{"1:2:3:4:5:6:7::", of(1, 2, 3, 4, 5, 6, 7, 0)},
		{"1:2:3:4:5:6::8", of(1, 2, 3, 4, 5, 6, 0, 8)},
		{"0::", of(0, 0, 0, 0, 0, 0, 0, 0)},
		{"::0", of(0, 0, 0, 0, 0, 0, 0, 0)},
		{"0:0::0:1", of(0, 0, 0, 0, 0, 0, 0, 1)},
		{"0::0:0:0:0:0:1", of(0, 0, 0, 0, 0, 0, 0, 1)},
		{"1:0:0:0:5::8", of(1, 0, 0, 0, 5, 0, 0, 8)},
	} {
		if a, e := addr.Parse(x.text); a != x.a || e != api.OK {
			t.Errorf("P2.1: Parse(%q) = %x, %d, not %x", x.text, a, e, x.a)
		}
	}
}

func TestParseRefuses(t *testing.T) {
	for _, s := range []string{
		"", " ", ".", "...", "1", "a", "1.2.3", "1.2.3.", ".1.2.3", "1..2.3", "1.2.3.4.", ".1.2.3.4", "1.2.3.4.5",
		"010.0.0.1", "00.0.0.0", "0.0.0.00", "1.2.3.04", "000.0.0.0", "256.0.0.1", "0.0.0.256", "1.2.3.999", "1.2.3.1000",
		"1.2.3.18446744073709551616", "-1.2.3.4", "+1.2.3.4", "1.2.3.-0", " 1.2.3.4", "1.2.3.4 ", "1. 2.3.4", "1.2.3.4\n",
		"a.b.c.d", "1.2.3.f", "0x1.2.3.4", "1_0.2.3.4", "1.2.3.4/8", "1,2,3,4", "1.2.3.\u0664", "1.2.3.4\x00", "16909060",
		":", ":::", "::::", "1:", ":1", "1::2::3", "::1::", "1:::2", ":::1", "1:::", "::1:", ":1::", ":1:2:3:4:5:6:7", "1:2:3:4:5:6:7:",
		"1:2:3:4:5:6:7", "1:2:3:4:5:6:7:8:9", "1:2:3:4:5:6:7:8:", ":1:2:3:4:5:6:7:8", "0:0:0:0:0:0:0",
		"1:2:3:4:5:6:7::8", "::1:2:3:4:5:6:7:8", "1:2:3:4:5:6:7:8::", "1:2:3:4::5:6:7:8", "1:2:3:4:5:6:7:8:9::", "0:0:0:0:0:0:0:0::",
		"12345::", "00000::", "::00001", "10000::", "::fffff", "g::", "::G", "::/0", "::1/64", "1:2:3:4:5:6:7:-8", "+1::", "::0x1", "::1_0",
		"::1.2.3.4", "::ffff:1.2.3.4", "1:2:3:4:5:6:1.2.3.4", "1.2.3.4::", "::1.", ".::", "::1%eth0", "fe80::%1", "[::1]", " ::1", "::1 ", ":: 1",
		"::\u0661", "::\xff", "::1\x00", "localhost", "\x0a\x00\x00\x01", strings.Repeat("\x01", 16),
		"ffff:ffff:ffff:ffff:ffff:ffff:ffff:fffff", "0ffff:ffff:ffff:ffff:ffff:ffff:ffff:ffff", "ffff:ffff:ffff:ffff:ffff:ffff:ffff:ffff:",
		strings.Repeat(":", 100000), strings.Repeat("1.", 100000), strings.Repeat("1:", 100000), strings.Repeat("0", 100000) + "::",
	} {
		if a, e := addr.Parse(s); a != "" || e != api.ErrForm {
			t.Errorf("P2.1: Parse(%.50q) = %x, %d, not %d", s, a, e, api.ErrForm)
		}
	}
}

// known tells by the library what Parse is to answer. The library takes more
// texts than the document: zones, and IPv4 addresses inside IPv6 ones.
func known(s string) (string, api.Errno) {
	a, e := netip.ParseAddr(s)
	if e != nil || strings.Contains(s, "%") || strings.Contains(s, ":") && strings.Contains(s, ".") {
		return "", api.ErrForm
	}
	return string(a.AsSlice()), api.OK
}

// Each text of two and of three colons' worth of parts, and each alteration of a
// byte of good texts, is taken or refused as the library does it.
func TestParseAgainstLibrary(t *testing.T) {
	parts := []string{"", "0", "1", "00", "0ff", "FFFF", "10000", "g", "255", "256"}
	texts := []string{}
	for _, a := range parts {
		for _, b := range parts {
			for _, c := range parts {
				for _, d := range parts {
					texts = append(texts, a+"."+b+"."+c+"."+d, a+":"+b+":"+c+":"+d, a+":"+b+":3:4:5:6:"+c+":"+d, a+"::"+b+":"+c+":"+d)
				}
			}
		}
	}
	for _, good := range []string{"10.0.200.1", "2001:db8::1:0:0:1", "1:2:3:4:5:6:7:8", "1:2:3:4:5:6:7::", "::", "::1"} {
		for at := range len(good) + 1 {
			for c := range 256 {
				texts = append(texts, good[:at]+string([]byte{byte(c)})+good[at:])
				if at < len(good) {
					texts = append(texts, good[:at]+string([]byte{byte(c)})+good[at+1:], good[:at]+good[at+1:])
				}
			}
		}
	}
	for _, s := range texts {
		want, err := known(s)
		if a, e := addr.Parse(s); a != want || e != err {
			t.Errorf("P2.1: Parse(%q) = %x, %d, not %x, %d", s, a, e, want, err)
		}
	}
}

// canonical tells the text form of eight groups in another way: of all texts
// that leave a run of two or more zeros out, the first one of those that leave
// the most out.
func canonical(a string) string {
	var words []string
	for i := 0; i < len(a); i += 2 {
		words = append(words, fmt.Sprintf("%x", int(a[i])<<8+int(a[i+1])))
	}
	for n := len(words); n > 1; n-- {
		for at := 0; at+n <= len(words); at++ {
			if strings.Trim(strings.Join(words[at:at+n], ""), "0") == "" {
				return strings.Join(words[:at], ":") + "::" + strings.Join(words[at+n:], ":")
			}
		}
	}
	return strings.Join(words, ":")
}

func TestPrint(t *testing.T) {
	for _, a := range addresses() {
		want := canonical(a)
		if len(a) == 4 {
			want = fmt.Sprintf("%d.%d.%d.%d", a[0], a[1], a[2], a[3])
		}
		if s, e := addr.Print(a); s != want || e != api.OK {
			t.Errorf("P2.1: Print(%x) = %q, %d, not %q", a, s, e, want)
		}
	}
	for _, a := range wrongSizes() {
		if s, e := addr.Print(a); s != "" || e != api.ErrArg {
			t.Errorf("P2.1: Print of %d bytes = %q, %d", len(a), s, e)
		}
	}
}

// cleared is Mask told bit by bit.
func cleared(a string, bits int) string {
	out := []byte(a)
	for i := bits; i < 8*len(a); i++ {
		out[i/8] &^= 0x80 >> (i % 8)
	}
	return string(out)
}

func TestMask(t *testing.T) {
	for _, x := range []struct {
		a    string
		bits int
		want string
	}{
		{"\x0a\x01\x02\x03", 12, "\x0a\x00\x00\x00"},
		{"\xff\xff\xff\xff", 0, "\x00\x00\x00\x00"},
		{"\xff\xff\xff\xff", 1, "\x80\x00\x00\x00"},
		{"\xff\xff\xff\xff", 31, "\xff\xff\xff\xfe"},
		{"\xff\xff\xff\xff", 32, "\xff\xff\xff\xff"},
		{strings.Repeat("\xff", 16), 0, strings.Repeat("\x00", 16)},
		{strings.Repeat("\xff", 16), 127, strings.Repeat("\xff", 15) + "\xfe"},
		{strings.Repeat("\xff", 16), 128, strings.Repeat("\xff", 16)},
	} {
		if m, e := addr.Mask(x.a, x.bits); m != x.want || e != api.OK {
			t.Errorf("P2.2: Mask(%x, %d) = %x, %d, not %x", x.a, x.bits, m, e, x.want)
		}
	}
	for _, a := range addresses() {
		for bits := 0; bits <= 8*len(a); bits++ {
			if m, e := addr.Mask(a, bits); m != cleared(a, bits) || e != api.OK {
				t.Errorf("P2.2: Mask(%x, %d) = %x, %d", a, bits, m, e)
			}
		}
	}
}

func TestMaskRefuses(t *testing.T) {
	for _, a := range []string{"\x0a\x01\x02\x03", strings.Repeat("\xff", 16)} {
		for _, bits := range []int{-1, -8, math.MinInt64, 8*len(a) + 1, 8*len(a) + 8, 256, 1 << 32, 1<<32 + 8, math.MaxInt64} {
			if m, e := addr.Mask(a, bits); m != "" || e != api.ErrArg {
				t.Errorf("P2.2: Mask(%x, %d) = %x, %d", a, bits, m, e)
			}
		}
	}
	for _, a := range wrongSizes() {
		for _, bits := range []int{-1, 0, 1, 8 * len(a), 8*len(a) + 1} {
			if m, e := addr.Mask(a, bits); m != "" || e != api.ErrArg {
				t.Errorf("P2.2: Mask of %d bytes, %d = %x, %d", len(a), bits, m, e)
			}
		}
	}
}

// flipped is a with one bit altered.
func flipped(a string, bit int) string {
	out := []byte(a)
	out[bit/8] ^= 0x80 >> (bit % 8)
	return string(out)
}

// A bit counts if and only if it is one of the first ones, in both addresses.
func TestIn(t *testing.T) {
	for _, a := range []string{"\x0a\x81\xff\x00", "\x00\x00\x00\x00", of(0x2001, 0xdb8, 0, 0xffff, 1, 0, 0x8000, 1), of(0, 0, 0, 0, 0, 0, 0, 0)} {
		for bits := 0; bits <= 8*len(a); bits++ {
			if !addr.In(a, api.Prefix{Addr: a, Bits: bits}) {
				t.Errorf("P2.2: In(%x, %d of it): false", a, bits)
			}
			for bit := range 8 * len(a) {
				b := flipped(a, bit)
				want := bit >= bits
				if addr.In(a, api.Prefix{Addr: b, Bits: bits}) != want || addr.In(b, api.Prefix{Addr: a, Bits: bits}) != want {
					t.Errorf("P2.2: In of %x and %x, %d bits: not %v", a, b, bits, want)
				}
			}
		}
	}
}

func TestInRefuses(t *testing.T) {
	a4, a6 := "\x00\x00\x00\x00", strings.Repeat("\x00", 16)
	for _, bits := range []int{math.MinInt64, -1, 0, 1, 32, 33, 64, 128, 129, 1 << 32, math.MaxInt64} {
		if got, want := addr.In(a4, api.Prefix{Addr: a4, Bits: bits}), bits >= 0 && bits <= 32; got != want {
			t.Errorf("P2.2: In of 4 bytes, %d bits: %v", bits, got)
		}
		if got, want := addr.In(a6, api.Prefix{Addr: a6, Bits: bits}), bits >= 0 && bits <= 128; got != want {
			t.Errorf("P2.2: In of 16 bytes, %d bits: %v", bits, got)
		}
		if addr.In(a4, api.Prefix{Addr: a6, Bits: bits}) || addr.In(a6, api.Prefix{Addr: a4, Bits: bits}) {
			t.Errorf("P2.2: In of both versions, %d bits: true", bits)
		}
		for _, a := range wrongSizes() {
			p := api.Prefix{Addr: a, Bits: bits}
			if addr.In(a, p) || addr.In(a4, p) || addr.In(a6, p) || addr.In(a, api.Prefix{Addr: a4, Bits: bits}) || addr.In(a, api.Prefix{Addr: a6, Bits: bits}) {
				t.Errorf("P2.2: In of %d bytes, %d bits: true", len(a), bits)
			}
		}
	}
}

func TestCompare(t *testing.T) {
	// Each one is before all that follow it.
	order := []string{
		"", "\x00", "\x01", "b", "\x7f", "\x80", "\xff", "\x00\x00", "\x00\xff", "\x01\x00", "aa", "ab", "b\x00", "\xff\x00", "\xff\xff",
		"\x00\x00\x00\x00", "\x0a\x00\x00\x01", "\x0a\x00\x00\x02", "\x7f\xff\xff\xff", "\x80\x00\x00\x00", "\xff\xff\xff\xff", "\x00\x00\x00\x00\x00",
		strings.Repeat("\x00", 16), strings.Repeat("\x00", 15) + "\x01", "\x01" + strings.Repeat("\x00", 15), strings.Repeat("\xff", 16), strings.Repeat("\x00", 17),
	}
	for i, a := range order {
		for j, b := range order {
			want := 0
			if i < j {
				want = -1
			} else if i > j {
				want = 1
			}
			if n := addr.Compare(a, b); n != want {
				t.Errorf("P2.2: Compare(%x, %x) = %d, not %d", a, b, n, want)
			}
		}
	}
}

func TestPrintedParses(t *testing.T) {
	for _, a := range addresses() {
		s, _ := addr.Print(a)
		if b, e := addr.Parse(s); b != a || e != api.OK {
			t.Errorf("P2.3: %x printed as %q parses as %x, %d", a, s, b, e)
		}
	}
	for _, s := range []string{"10.0.0.1", "0::0", "0:0:0:0:0:0:0:0", "ABCD::0:0:1", "1:2:3:4:5:6:7::", "0001:0:0:2:0:0:0:3", "::2:3:4:5:6:7:8"} {
		a, e := addr.Parse(s)
		if e != api.OK {
			t.Fatalf("P2.3: Parse(%q): %d", s, e)
		}
		u, _ := addr.Print(a)
		if b, e := addr.Parse(u); b != a || e != api.OK {
			t.Errorf("P2.3: %q is %x, printed as %q it is %x, %d", s, a, u, b, e)
		}
	}
}

func TestMaskTwice(t *testing.T) {
	for _, a := range []string{"\x0a\x81\xff\x55", "\xff\xff\xff\xff", of(0x2001, 0xdb8, 0, 0xffff, 0x1234, 0x5678, 0x9abc, 0xdef1), strings.Repeat("\xff", 16)} {
		for i := 0; i <= 8*len(a); i++ {
			once, _ := addr.Mask(a, i)
			for j := 0; j <= 8*len(a); j++ {
				twice, e := addr.Mask(once, j)
				if want, _ := addr.Mask(a, min(i, j)); twice != want || e != api.OK {
					t.Errorf("P2.3: Mask(%x, %d), then %d: %x, %d, not %x", a, i, j, twice, e, want)
				}
			}
		}
	}
}

func TestInItsMask(t *testing.T) {
	for _, a := range addresses() {
		for bits := 0; bits <= 8*len(a); bits++ {
			m, e := addr.Mask(a, bits)
			if e != api.OK || !addr.In(a, api.Prefix{Addr: m, Bits: bits}) {
				t.Errorf("P2.3: %x is not in %x, %d bits", a, m, bits)
			}
		}
	}
}
