package split_test

import (
	"strings"
	"testing"
	"unsafe"

	"redoubt/api"
	"redoubt/split"
)

// laterOf is what Later must answer, by the words of the chapters, and whether
// there is an answer at all.
func laterOf(s string) (string, bool) {
	out := ""
	for s != "" && s[0] != 0 {
		n := 1
		if s[0] != 1 {
			if len(s) < 2 || s[1] < 2 || int(s[1]) > len(s) {
				return "", false
			}
			n = int(s[1])
		}
		if s[0] >= 128 {
			out += s[:n]
		}
		s = s[n:]
	}
	for len(out)%4 != 0 {
		out += "\x00"
	}
	return out, true
}

// option is an option with n bytes in all.
func option(kind int, n int) string {
	return string([]byte{byte(kind), byte(n)}) + string(some(n-2, uint64(kind)))
}

// zeros is a text of n zero bytes.
func zeros(n int) string { return strings.Repeat("\x00", n) }

// kept fails unless Later answers options.
func kept(t *testing.T, options string, want string) {
	t.Helper()
	if s, e := split.Later(options); s != want || e != api.OK {
		t.Fatalf("P19.1: Later(%x) = %x, %d, not %x", options, s, e, want)
	}
}

// malformed fails unless Later refuses options.
func malformed(t *testing.T, options string) {
	t.Helper()
	if s, e := split.Later(options); s != "" || e != api.ErrForm {
		t.Fatalf("P19.1: Later(%x) = %x, %d, not %d", options, s, e, api.ErrForm)
	}
}

// right fails unless Later answers what the chapter's words give.
func right(t *testing.T, options string) {
	t.Helper()
	if want, ok := laterOf(options); ok {
		kept(t, options, want)
	} else {
		malformed(t, options)
	}
}

// TestLaterOfEachKind keeps the options whose Kind is 128 or greater.
func TestLaterOfEachKind(t *testing.T) {
	kept(t, "\x7f\x04ab", "")
	kept(t, "\x80\x04ab", "\x80\x04ab")
	kept(t, "\xff\x04ab", "\xff\x04ab")
	for kind := 2; kind <= 255; kind++ {
		for n := 2; n <= 255; n++ {
			o := option(kind, n)
			want := ""
			if kind >= 128 {
				want = o + zeros((4-n%4)%4)
			}
			kept(t, o, want)
			kept(t, "\x01"+o+"\x00", want)
		}
	}
}

// TestLaterOfSome keeps none of the options, some of them, and all.
func TestLaterOfSome(t *testing.T) {
	kept(t, "\x07\x03\x04\x94\x04\x00\x00\x00", "\x94\x04\x00\x00") // the chapter's example
	for s, want := range map[string]string{
		"":                                  "",
		"\x00":                              "",
		"\x01":                              "",
		"\x01\x01\x01\x01\x01":              "",
		"\x07\x02\x44\x03a\x7f\x02\x02\x02": "",
		"\x83\x03a\x88\x04bc":               "\x83\x03a\x88\x04bc\x00",
		"\x88\x04bc\x83\x03a":               "\x88\x04bc\x83\x03a\x00",
		"\x83\x03a\x07\x05bcd\x88\x04ef":    "\x83\x03a\x88\x04ef\x00",
		"\x07\x03a\x83\x05bcd\x44\x04ef":    "\x83\x05bcd\x00\x00\x00",
		"\x7f\x02\x80\x02\x7f\x02\x80\x02":  "\x80\x02\x80\x02",
		"\xff\x02\x80\x02\x81\x02\xff\x02":  "\xff\x02\x80\x02\x81\x02\xff\x02",
		"\x83\x03a\x83\x03a\x83\x03b":       "\x83\x03a\x83\x03a\x83\x03b\x00\x00\x00",
		"\x94\x04\x00\x00\x94\x04\x00\x00":  "\x94\x04\x00\x00\x94\x04\x00\x00",
		"\x07\x04\x94\x04\x94\x04\x07\x04":  "\x94\x04\x07\x04",
	} {
		kept(t, s, want)
	}
}

// TestLaterOfPackets takes the options of packets of the other tests: all of them
// are kept, some, or none.
func TestLaterOfPackets(t *testing.T) {
	for _, s := range all {
		kept(t, s, s)
	}
	for _, s := range half {
		if later, e := split.Later(s); later == "" || len(later) > len(s) || later == s || e != api.OK {
			t.Errorf("P19.1: Later(%x) = %x, %d", s, later, e)
		}
		right(t, s)
	}
	for _, s := range none {
		kept(t, s, "")
	}
}

// TestLaterPads fills 0, 1, 2 and 3 bytes of the last word, with one option and
// with several.
func TestLaterPads(t *testing.T) {
	for _, before := range []string{"", "\x01", "\x83\x02", "\x07\x03a", "\xc0\x05abc"} {
		for n := 2; n <= 41; n++ {
			want, _ := laterOf(before)
			want = strings.TrimRight(want, "\x00")
			o := "\x94" + string([]byte{byte(n)}) + strings.Repeat("x", n-2)
			kept(t, before+o, want+o+zeros(3-(len(want)+n+3)%4))
		}
	}
}

// TestLaterEnds examines nothing behind a byte that ends the options.
func TestLaterEnds(t *testing.T) {
	for _, tail := range []string{"", "\x00", "\x83\x02", "\x83", "\x07\x01", "\x07\xff", zeros(9), "\x94\x04ab"} {
		kept(t, "\x00"+tail, "")
		kept(t, "\x01\x00"+tail, "")
		kept(t, "\x07\x02\x00"+tail, "")
		kept(t, "\x83\x03\x00\x00"+tail, "\x83\x03\x00\x00")
		kept(t, "\x83\x02\x00"+tail, "\x83\x02\x00\x00")
	}
}

// TestLaterRefuses takes options that layer 3 refuses, alone and behind others,
// whether every fragment would carry them or not.
func TestLaterRefuses(t *testing.T) {
	for _, before := range []string{"", "\x01", "\x07\x03a", "\x83\x03a", "\x94\x04\x00\x00", strings.Repeat("\x83\x02", 30)} {
		for kind := 2; kind <= 255; kind++ {
			k := before + string([]byte{byte(kind)})
			malformed(t, k)
			for _, tail := range []string{"\x00", "\x01", "\x00\x00\x00", "\x01\x83\x02", "\x03", "\x05ab", "\xff", "\xffabc", "\xff" + zeros(252)} {
				malformed(t, k+tail)
			}
		}
	}
}

// TestLaterOfAllShort takes all options of up to seven of some bytes.
func TestLaterOfAllShort(t *testing.T) {
	var walk func(s string)
	walk = func(s string) {
		right(t, s)
		if len(s) == 7 {
			return
		}
		for _, b := range []byte{0, 1, 2, 3, 4, 127, 128, 255} {
			walk(s + string([]byte{b}))
		}
	}
	walk("")
}

// drawnOptions are options of n bytes that the dice choose; they may be malformed
// if wild is set.
func drawnOptions(d *dice, n int, wild bool) string {
	s := ""
	for len(s) < n {
		left := n - len(s)
		switch {
		case wild && d.once(25):
			s += string(some(1+d.under(left), uint64(d.under(1<<30))))
		case left == 1 || d.once(6):
			s += "\x01"
		case d.once(20):
			s += zeros(left)
		default:
			s += option([]int{2, 7, 127, 128, 131, 131, 255, 2 + d.under(254)}[d.under(8)], min(2+d.under(left-1), 255))
		}
	}
	return s
}

// TestLaterDrawn takes options of up to 400 bytes, which are more than a packet
// may have.
func TestLaterDrawn(t *testing.T) {
	d := &dice{1}
	for range 20000 {
		s := drawnOptions(d, d.under(400), d.once(2))
		right(t, s)
		if later, e := split.Later(s); e == api.OK {
			kept(t, later, later) // it has no other options than those that are kept
		}
	}
	big := strings.Repeat(option(130, 254)+option(7, 200)+option(131, 255), 2000)
	right(t, big)
	malformed(t, big+"\x83")
}

// TestLaterIsNew alters what it is passed and what it answers.
func TestLaterIsNew(t *testing.T) {
	for _, s := range []string{"\x94\x04ab", "\x83\x03a\x00", "\x94\x04ab\x83\x04cd", "\x07\x02\x94\x06abcd"} {
		want, _ := laterOf(s)
		b := []byte(s + "xyz")
		passed := unsafe.String(&b[0], len(s))
		first, _ := split.Later(passed)
		second, _ := split.Later(passed)
		if string(b) != s+"xyz" {
			t.Errorf("P19.1: Later(%x) makes %x of its argument", s, b)
		}
		clear(b)
		if first != want || second != want {
			t.Errorf("P19.1: Later(%x) = %x and %x after its argument was altered", s, first, second)
		}
		clear(unsafe.Slice(unsafe.StringData(first), len(first))) // it is in memory of its own
		if second != want {
			t.Errorf("P19.1: two answers of Later(%x) share memory", s)
		}
	}
}
