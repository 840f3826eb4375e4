package ip4_test

import (
	"bytes"
	"encoding/binary"
	"math"
	"reflect"
	"slices"
	"strings"
	"testing"

	"redoubt/api"
	"redoubt/inet"
	"redoubt/ip4"
)

// good is a packet in which no two fields are alike.
func good() api.Ip4 {
	return api.Ip4{
		Tos: 0x12, Id: 0x3456, Ttl: 0x78, Proto: 0x9a, Df: true, Off: 0x1f38,
		Src: "\x0a\x0b\x0c\x0d", Dst: "\xc0\xa8\x01\xfe", Options: "\x94\x04\x00\x00\x01\x01\x01\x00", Data: []byte("some data"),
	}
}

// want tells the encoding of a packet in another way than by its fields in
// turn: as words of 32 bits.
func want(p api.Ip4) []byte {
	size := 20 + len(p.Options)
	word := func(n int) []byte { return binary.BigEndian.AppendUint32(nil, uint32(n)) }
	place := p.Off >> 3
	if p.Df {
		place += 16384
	}
	if p.Mf {
		place += 8192
	}
	b := slices.Concat(
		word((64+size/4)*1<<24+p.Tos*1<<16+size+len(p.Data)),
		word(p.Id*65536+place),
		word(p.Ttl*1<<24+p.Proto*65536),
		[]byte(p.Src+p.Dst+p.Options))
	return append(seal(b), p.Data...)
}

// seal puts the checksum of a header into it: told by a total, not in steps.
func seal(b []byte) []byte {
	b = slices.Clone(b)
	b[10], b[11] = 0, 0
	total := 0
	for i := 0; i < len(b); i += 2 {
		total += int(b[i])*256 + int(b[i+1])
	}
	sum := 65535
	if total != 0 {
		sum = 65535 - ((total-1)%65535 + 1)
	}
	b[10], b[11] = byte(sum/256), byte(sum%256)
	return b
}

// resealed is an encoding after a change of its header, whose length it has.
func resealed(b []byte, size int, turn func(b []byte)) []byte {
	b = slices.Clone(b)
	turn(b)
	return append(seal(b[:size]), b[size:]...)
}

// packets are valid ones of many shapes, the same in each run.
func packets() []api.Ip4 {
	out := []api.Ip4{good(), {Src: "\x00\x00\x00\x00", Dst: "\x00\x00\x00\x00"}, {Src: "\xff\xff\xff\xff", Dst: "\xff\xff\xff\xff"}}
	for i := range 400 {
		p := api.Ip4{
			Tos: i * 7 % 256, Id: i * 1657 % 65536, Ttl: i * 13 % 256, Proto: i * 29 % 256, Df: i%2 == 1, Mf: i%3 == 1, Off: i * 4649 % 8192 * 8,
			Src: string([]byte{byte(i), byte(i * 3), byte(i * 5), 255}), Dst: string([]byte{0, byte(i * 11), byte(i * 17), byte(i * 19)}),
			Options: strings.Repeat(string([]byte{byte(i), 4, byte(i * 31), 0}), i%11),
			Data:    bytes.Repeat([]byte{byte(i * 37), byte(i)}, i%9)[:i%9],
		}
		out = append(out, p)
	}
	for _, n := range []int{0, 1, 100, 65514, 65515} {
		p := good()
		p.Options, p.Data = "", bytes.Repeat([]byte{0xa5}, n)
		out = append(out, p)
	}
	p := api.Ip4{Tos: 255, Id: 65535, Ttl: 255, Proto: 255, Df: true, Mf: true, Off: 65528, Src: "\xff\xff\xff\xff", Dst: "\xff\xff\xff\xff"}
	p.Options, p.Data = strings.Repeat("\xff", 40), bytes.Repeat([]byte{255}, 65475)
	return append(out, p)
}

// same reports whether two packets are equal; of no data there may be nil or an empty slice.
func same(p, q api.Ip4) bool {
	if len(p.Data) == 0 && len(q.Data) == 0 {
		p.Data, q.Data = nil, nil
	}
	return reflect.DeepEqual(p, q)
}

// blank is a packet between the addresses of the document's example, with only
// the fields set that turn sets.
func blank(turn func(p *api.Ip4)) api.Ip4 {
	p := api.Ip4{Src: "\x0a\x00\x00\x01", Dst: "\x0a\x00\x00\x02"}
	turn(&p)
	return p
}

// refused fails unless both Check and Bytes answer an error, and no bytes.
func refused(t *testing.T, what string, p api.Ip4, want api.Errno) {
	t.Helper()
	if e := ip4.Check(p); e != want {
		t.Errorf("P3.1: Check, %s: %d, not %d", what, e, want)
	}
	if b, e := ip4.Bytes(p); len(b) != 0 || e != want {
		t.Errorf("P3.1: Bytes, %s: %d bytes, %d, not %d", what, len(b), e, want)
	}
}

func TestBytes(t *testing.T) {
	for _, x := range []struct {
		p    api.Ip4
		text string
	}{
		{blank(func(p *api.Ip4) { p.Ttl, p.Proto = 64, 17 }), "\x45\x00\x00\x14\x00\x00\x00\x00\x40\x11\x66\xd7\x0a\x00\x00\x01\x0a\x00\x00\x02"},
		{
			api.Ip4{Tos: 0xb8, Id: 0xbeef, Ttl: 1, Proto: 50, Mf: true, Off: 1480, Src: "\xc0\x00\x02\x01", Dst: "\xc6\x33\x64\x07", Options: "\x94\x04\x00\x00", Data: []byte("xyz")},
			"\x46\xb8\x00\x1b\xbe\xef\x20\xb9\x01\x32\x58\x10\xc0\x00\x02\x01\xc6\x33\x64\x07\x94\x04\x00\x00xyz",
		},
		{
			api.Ip4{Df: true, Off: 65528, Src: "\x00\x00\x00\x00", Dst: "\x00\x00\x00\x00"},
			"\x45\x00\x00\x14\x00\x00\x5f\xff\x00\x00\x5a\xec" + "\x00\x00\x00\x00\x00\x00\x00\x00",
		},
	} {
		if b, e := ip4.Bytes(x.p); string(b) != x.text || e != api.OK {
			t.Errorf("P3.1: Bytes of %#v: %x, %d, not %x", x.p, b, e, x.text)
		}
	}
	for _, p := range packets() {
		if e := ip4.Check(p); e != api.OK {
			t.Errorf("P3.1: Check of %#v: %d", p, e)
		}
		if b, e := ip4.Bytes(p); !bytes.Equal(b, want(p)) || e != api.OK {
			t.Errorf("P3.1: Bytes of %#v: %.60x, %d, not %.60x", p, b, e, want(p))
		}
	}
}

func TestFieldsOutOfRange(t *testing.T) {
	for _, f := range []struct {
		name string
		most int
		of   func(p *api.Ip4) *int
	}{
		{"Tos", 255, func(p *api.Ip4) *int { return &p.Tos }},
		{"Ttl", 255, func(p *api.Ip4) *int { return &p.Ttl }},
		{"Proto", 255, func(p *api.Ip4) *int { return &p.Proto }},
		{"Id", 65535, func(p *api.Ip4) *int { return &p.Id }},
		{"Off", 65528, func(p *api.Ip4) *int { return &p.Off }},
	} {
		for _, n := range []int{0, f.most} {
			p := good()
			*f.of(&p) = n
			if b, e := ip4.Bytes(p); ip4.Check(p) != api.OK || !bytes.Equal(b, want(p)) || e != api.OK {
				t.Errorf("P3.1: %s %d: %x, %d", f.name, n, b, e)
			}
		}
		for _, n := range []int{-1, -8, -256, -65536, f.most + 1, f.most + 8, 65536, 65536 + 8, 1 << 32, 1<<32 + 8, math.MaxInt64, math.MaxInt64 - 7, math.MinInt64} {
			p := good()
			*f.of(&p) = n
			refused(t, f.name, p, api.ErrArg)
		}
	}
}

func TestOffsets(t *testing.T) {
	for off := -9; off <= 65544; off++ {
		p := blank(func(p *api.Ip4) { p.Off = off })
		if off%8 == 0 && off >= 0 && off <= 65528 {
			if b, e := ip4.Bytes(p); !bytes.Equal(b, want(p)) || e != api.OK {
				t.Errorf("P3.1: Off %d: %x, %d", off, b, e)
			}
		} else if e := ip4.Check(p); e != api.ErrArg {
			t.Errorf("P3.1: Off %d: %d", off, e)
		}
	}
}

func TestLengths(t *testing.T) {
	for n := range 70 {
		s := strings.Repeat("\x01", n)
		if n != 4 {
			refused(t, "Src", blank(func(p *api.Ip4) { p.Src = s }), api.ErrArg)
			refused(t, "Dst", blank(func(p *api.Ip4) { p.Dst = s }), api.ErrArg)
		}
		p := blank(func(p *api.Ip4) { p.Options = s })
		if n > 40 || n%4 != 0 {
			refused(t, "Options", p, api.ErrArg)
			continue
		}
		if b, e := ip4.Bytes(p); !bytes.Equal(b, want(p)) || e != api.OK {
			t.Errorf("P3.1: options of %d bytes: %x, %d", n, b, e)
		}
		p.Data = make([]byte, 65535-20-n)
		if b, e := ip4.Bytes(p); len(b) != 65535 || !bytes.Equal(b, want(p)) || ip4.Check(p) != api.OK || e != api.OK {
			t.Errorf("P3.1: options of %d bytes in 65535: %d bytes, %d", n, len(b), e)
		}
		for _, more := range []int{1, 2, 65536, 1 << 20} {
			p.Data = make([]byte, 65535-20-n+more)
			refused(t, "Data", p, api.ErrLong)
		}
	}
}

// A packet that is not valid and too long is refused because it is not valid.
func TestNotValidBeforeTooLong(t *testing.T) {
	for i, turn := range []func(p *api.Ip4){
		func(p *api.Ip4) { p.Tos = 256 }, func(p *api.Ip4) { p.Ttl = -1 }, func(p *api.Ip4) { p.Proto = 256 }, func(p *api.Ip4) { p.Id = 65536 },
		func(p *api.Ip4) { p.Off = 4 }, func(p *api.Ip4) { p.Src = "" }, func(p *api.Ip4) { p.Dst = "12345" },
		func(p *api.Ip4) { p.Options = "1" }, func(p *api.Ip4) { p.Options = strings.Repeat("1", 44) }, func(p *api.Ip4) { p.Options = strings.Repeat("1", 65536) },
	} {
		p := good()
		p.Data = make([]byte, 70000)
		turn(&p)
		refused(t, "fault "+string(rune('a'+i))+" beside too much data", p, api.ErrArg)
	}
}

// What is passed stays as it is, its spare capacity too, and what is answered
// stays as it is when that is altered.
func TestMemory(t *testing.T) {
	room := []byte("data and what stands behind it")
	p := good()
	p.Data = room[:4]
	b, _ := ip4.Bytes(p)
	kept := slices.Clone(b)
	if string(room) != "data and what stands behind it" {
		t.Errorf("P3.1: Bytes altered its argument: %s", room)
	}
	room[0] = 'X'
	if !bytes.Equal(b, kept) {
		t.Error("P3.1: Bytes shares memory with its argument")
	}
	b = append(kept, "behind"...)[:len(kept)]
	q, _ := ip4.Parse(b)
	if !bytes.Equal(b[:len(b)+6], append(slices.Clone(kept), "behind"...)) {
		t.Error("P3.2: Parse altered its argument")
	}
	clear(b)
	if want := good(); string(q.Data) != "data" || q.Src != want.Src || q.Dst != want.Dst || q.Options != want.Options {
		t.Errorf("P3.2: Parse shares memory with its argument: %#v", q)
	}
}

// noPacket fails unless Parse answers an error, and nothing else.
func noPacket(t *testing.T, what string, b []byte, want api.Errno) {
	t.Helper()
	if p, e := ip4.Parse(b); !reflect.DeepEqual(p, api.Ip4{}) || e != want {
		t.Errorf("P3.2: Parse, %s: %#v, %d, not %d", what, p, e, want)
	}
}

func TestParse(t *testing.T) {
	text := "\x46\xb8\x00\x1b\xbe\xef\x20\xb9\x01\x32\x58\x10\xc0\x00\x02\x01\xc6\x33\x64\x07\x94\x04\x00\x00xyz"
	p := api.Ip4{Tos: 0xb8, Id: 0xbeef, Ttl: 1, Proto: 50, Mf: true, Off: 1480, Src: "\xc0\x00\x02\x01", Dst: "\xc6\x33\x64\x07", Options: "\x94\x04\x00\x00", Data: []byte("xyz")}
	if q, e := ip4.Parse([]byte(text)); !same(q, p) || e != api.OK {
		t.Errorf("P3.2: %#v, %d, not %#v", q, e, p)
	}
	text = "\x45\x00\x00\x14\x00\x00\x00\x00\x40\x11\x66\xd7\x0a\x00\x00\x01\x0a\x00\x00\x02"
	p = blank(func(p *api.Ip4) { p.Ttl, p.Proto = 64, 17 })
	if q, e := ip4.Parse([]byte(text)); !same(q, p) || e != api.OK {
		t.Errorf("P3.2: %#v, %d, not %#v", q, e, p)
	}
	noPacket(t, "another last byte", []byte(text[:19]+"\x03"), api.ErrSum)
	// Options are not interpreted: these have no form.
	p = good()
	p.Options = "\x07\x00\xff\x01\x44\xff\x00\x02"
	if q, e := ip4.Parse(want(p)); !same(q, p) || e != api.OK {
		t.Errorf("P3.2: options without form: %#v, %d", q, e)
	}
}

func TestParseLengths(t *testing.T) {
	for _, p := range packets() {
		b := want(p)
		step := 1 + len(b)/500
		for n := 0; n < len(b); n += step {
			noPacket(t, "cut off", b[:n], api.ErrMore)
		}
		noPacket(t, "without its last byte", b[:len(b)-1], api.ErrMore)
		for _, more := range []int{1, 2, 20, 65536} {
			noPacket(t, "with bytes behind it", append(slices.Clone(b), make([]byte, more)...), api.ErrForm)
		}
	}
	noPacket(t, "nil", nil, api.ErrMore)
}

// Each first byte: a version that is not 4 or less than 5 words have no form,
// more words than there are bytes ask for more.
func TestParseFirst(t *testing.T) {
	for first := range 256 {
		for _, n := range []int{20, 24, 32, 59, 60, 61, 100} {
			b := make([]byte, n)
			b[0], b[3] = byte(first), byte(n)
			size := first % 16 * 4
			want := api.OK
			switch {
			case first/16 != 4 || size < 20:
				want = api.ErrForm
			case size > n:
				want = api.ErrMore
			default:
				b = append(seal(b[:size]), b[size:]...)
			}
			q, e := ip4.Parse(b)
			if e != want || e == api.OK && len(q.Options) != size-20 || e != api.OK && !reflect.DeepEqual(q, api.Ip4{}) {
				t.Errorf("P3.2: first byte %x of %d: %#v, %d, not %d", first, n, q, e, want)
			}
			noPacket(t, "19 bytes, whatever the first", b[:19], api.ErrMore)
		}
	}
}

// Each total length, of a packet of 40 bytes with a header of 28.
func TestParseTotal(t *testing.T) {
	p := blank(func(p *api.Ip4) { p.Options, p.Data = "\x01\x01\x01\x01\x01\x01\x01\x01", []byte("twelve bytes") })
	for total := range 65536 {
		b := resealed(want(p), 28, func(b []byte) { b[2], b[3] = byte(total/256), byte(total%256) })
		want := api.OK
		if total > 40 {
			want = api.ErrMore
		} else if total < 40 {
			want = api.ErrForm
		}
		if q, e := ip4.Parse(b); e != want || e == api.OK && !same(q, p) || e != api.OK && !reflect.DeepEqual(q, api.Ip4{}) {
			t.Errorf("P3.2: total length %d of 40: %#v, %d, not %d", total, q, e, want)
		}
	}
	// As many bytes as the total length says, which are fewer than the header's.
	b := resealed(want(p), 28, func(b []byte) { b[3] = 24 })
	noPacket(t, "the total length within the header", b[:24], api.ErrMore)
	noPacket(t, "a total length less than the header", b[:28], api.ErrForm)
}

// Each field that holds the offset and its bits.
func TestParsePlace(t *testing.T) {
	p := good()
	for place := range 65536 {
		b := resealed(want(p), 28, func(b []byte) { b[6], b[7] = byte(place/256), byte(place%256) })
		if place >= 32768 {
			noPacket(t, "the reserved bit", b, api.ErrForm)
			continue
		}
		q, e := ip4.Parse(b)
		if e != api.OK || q.Df != (place/16384 == 1) || q.Mf != (place/8192%2 == 1) || q.Off != place%8192*8 {
			t.Errorf("P3.2: %x in the field of the offset: %v, %v, %d, %d", place, q.Df, q.Mf, q.Off, e)
		}
	}
}

// Each checksum field: it counts as right if it is the Check of the header, or
// the other zero of the one's complement.
func TestParseSums(t *testing.T) {
	// Its Check is 0: the Id is what the other words lack.
	full := blank(func(p *api.Ip4) { p.Ttl, p.Proto = 64, 17; p.Id = 0x66d7 })
	for _, p := range []api.Ip4{good(), full, blank(func(p *api.Ip4) { p.Ttl, p.Proto = 64, 17 })} {
		b := want(p)
		right := int(b[10])*256 + int(b[11])
		size := 20 + len(p.Options)
		for sum := range 65536 {
			b[10], b[11] = byte(sum/256), byte(sum%256)
			want := api.ErrSum
			if sum == right || right == 0 && sum == 65535 {
				want = api.OK
			}
			q, e := ip4.Parse(b)
			if e != want || e == api.OK && !same(q, p) || e != api.OK && !reflect.DeepEqual(q, api.Ip4{}) {
				t.Errorf("P3.2: %x in the field of the checksum %x: %#v, %d, not %d", sum, right, q, e, want)
			}
			if (e == api.OK) != (inet.Sum(b[:size]) == 65535) {
				t.Errorf("P3.2: %d where the Sum is %x", e, inet.Sum(b[:size]))
			}
		}
	}
	b, e := ip4.Bytes(full)
	if e != api.OK || b[10] != 0 || b[11] != 0 {
		t.Errorf("P3.4: where Check is 0 Bytes writes %x, %d", b[10:12], e)
	}
}

// The sum covers the whole header with its options, and nothing behind it.
func TestParseSumCovers(t *testing.T) {
	p := good()
	for bit := range 8 * len(want(p)) {
		b := want(p)
		b[bit/8] ^= 128 >> (bit % 8)
		q, e := ip4.Parse(b)
		if (bit < 8*28) != (e != api.OK) {
			t.Errorf("P3.2: bit %d altered: %#v, %d", bit, q, e)
		}
		if at := bit / 8; (at == 1 || at == 4 || at == 5 || at >= 8 && at < 28) && e != api.ErrSum {
			t.Errorf("P3.2: bit %d altered: %d, not %d", bit, e, api.ErrSum)
		}
	}
}

// Of several faults the first one in the order of the promise is told.
func TestParseOrder(t *testing.T) {
	version := func(b []byte) []byte { b[0] = b[0]&15 | 0x60; return b }
	words := func(b []byte) []byte { b[0] = 0x44; return b }
	long := func(b []byte) []byte { b[2] = 255; return b }
	short := func(b []byte) []byte { b[3] = 8; return b }
	wide := func(b []byte) []byte { b[0] = 0x4f; return b }
	bit := func(b []byte) []byte { b[6] |= 128; return b }
	sum := func(b []byte) []byte { b[10]++; return b }
	cut := func(b []byte) []byte { return b[:19] }
	tail := func(b []byte) []byte { return append(b, 0) }
	for _, x := range []struct {
		what  string
		turns []func(b []byte) []byte
		want  api.Errno
	}{
		{"cut before version", []func(b []byte) []byte{version, bit, cut}, api.ErrMore},
		{"cut before words", []func(b []byte) []byte{words, sum, cut}, api.ErrMore},
		{"version before total", []func(b []byte) []byte{version, long}, api.ErrForm},
		{"words before total", []func(b []byte) []byte{words, long}, api.ErrForm},
		{"version before a header too long", []func(b []byte) []byte{wide, version}, api.ErrForm},
		{"total before bit", []func(b []byte) []byte{long, bit}, api.ErrMore},
		{"total before sum", []func(b []byte) []byte{long, sum}, api.ErrMore},
		{"header before bit", []func(b []byte) []byte{wide, bit}, api.ErrMore},
		{"header before a total less than it", []func(b []byte) []byte{wide, short}, api.ErrMore},
		{"small total before sum", []func(b []byte) []byte{short, sum}, api.ErrForm},
		{"tail before sum", []func(b []byte) []byte{tail, sum}, api.ErrForm},
		{"bit before sum", []func(b []byte) []byte{bit, sum}, api.ErrForm},
		{"sum alone", []func(b []byte) []byte{sum}, api.ErrSum},
	} {
		b := want(good())
		for _, turn := range x.turns {
			b = turn(b)
		}
		noPacket(t, x.what, b, x.want)
	}
}

func TestOptions(t *testing.T) {
	most := "\x83\xff" + strings.Repeat("m", 253)
	for _, x := range []struct {
		s    string
		want []api.Ext
	}{
		{"", nil},
		{"\x00", nil},
		{"\x00\x00\x00\x00", nil},
		{"\x00\x02", nil},
		{"\x00\x02\x00\xff", nil},
		{"\x01", []api.Ext{{Kind: 1}}},
		{"\x01\x01\x01\x01", []api.Ext{{Kind: 1}, {Kind: 1}, {Kind: 1}, {Kind: 1}}},
		{"\x01\x94\x04\x00\x00\x00", []api.Ext{{Kind: 1}, {Kind: 148, Data: "\x00\x00"}}},
		{"\x02\x02", []api.Ext{{Kind: 2}}},
		{"\xff\x02\x00\x05", []api.Ext{{Kind: 255}}},
		{"\xff\x02\x02\x03x\x01", []api.Ext{{Kind: 255}, {Kind: 2, Data: "x"}, {Kind: 1}}},
		{"\x44\x08\x00\x01\x02\x03\x04\x05\x00\x07", []api.Ext{{Kind: 68, Data: "\x00\x01\x02\x03\x04\x05"}}},
		{"\x07\x03\x01\x00\x07\x03\x01", []api.Ext{{Kind: 7, Data: "\x01"}}},
		{"\x02\x03\x00\x05\x02", []api.Ext{{Kind: 2, Data: "\x00"}, {Kind: 5}}},
		{most, []api.Ext{{Kind: 131, Data: most[2:]}}},
		{most + most + "\x00\xff", []api.Ext{{Kind: 131, Data: most[2:]}, {Kind: 131, Data: most[2:]}}},
	} {
		if l, e := ip4.Options(x.s); !slices.Equal(l, x.want) || e != api.OK {
			t.Errorf("P3.3: Options(%x): %#v, %d, not %#v", x.s, l, e, x.want)
		}
	}
	for _, s := range []string{
		"\x02", "\xff", "\x02\x00", "\x02\x01", "\x02\x03", "\x02\x00\x01", "\x02\x01\x01\x01", "\x02\x03x\x05", "\x01\x02", "\x01\x05\x04\x00",
		"\x02\x02\x03", "\x02\x02\x03\x01", "\x02\x02\x03\x03", "\x83\xff" + strings.Repeat("m", 252), "\x03\x04\x00\x02\x02\x09\x05\x00", "\xff\xff",
	} {
		if l, e := ip4.Options(s); len(l) != 0 || e != api.ErrForm {
			t.Errorf("P3.3: Options(%x): %#v, %d, not %d", s, l, e, api.ErrForm)
		}
	}
}

// expect tells the options from behind: which ones are there if an option begins
// at each place, given those for all later places. ok is false where there is no form.
func expect(s string) (list []api.Ext, ok bool) {
	lists, oks := make([][]api.Ext, len(s)+1), make([]bool, len(s)+1)
	oks[len(s)] = true
	for at := len(s) - 1; at >= 0; at-- {
		next, here := at+1, api.Ext{Kind: int(s[at])}
		if s[at] == 0 {
			oks[at] = true
			continue
		}
		if s[at] != 1 {
			if at+1 == len(s) || s[at+1] < 2 || at+int(s[at+1]) > len(s) {
				continue
			}
			next = at + int(s[at+1])
			here.Data = s[at+2 : next]
		}
		lists[at], oks[at] = append([]api.Ext{here}, lists[next]...), oks[next]
	}
	return lists[0], oks[0]
}

func TestAllShortOptions(t *testing.T) {
	letters := []byte{0, 1, 2, 3, 4, 5, 148}
	texts := []string{""}
	for at := 0; at < len(texts); at++ {
		s := texts[at]
		want, ok := expect(s)
		l, e := ip4.Options(s)
		if ok && (!slices.Equal(l, want) || e != api.OK) || !ok && (len(l) != 0 || e != api.ErrForm) {
			t.Errorf("P3.3: Options(%x): %#v, %d, not %#v, %v", s, l, e, want, ok)
		}
		for _, c := range letters {
			if len(s) < 5 {
				texts = append(texts, s+string([]byte{c}))
			}
		}
	}
}

func TestRoundTrip(t *testing.T) {
	for _, p := range packets() {
		b, e := ip4.Bytes(p)
		if e != api.OK {
			t.Fatalf("P3.4: Bytes of %#v: %d", p, e)
		}
		q, e := ip4.Parse(b)
		if !same(p, q) || e != api.OK {
			t.Errorf("P3.4: %#v comes back as %#v, %d", p, q, e)
		}
	}
}

// Whatever parses and has the Check of its header is what Bytes writes again.
func TestBackAgain(t *testing.T) {
	seed := uint32(3)
	for n := range 3000 {
		b := make([]byte, 20+n%90)
		for i := range b {
			seed = seed*1664525 + 1013904223
			b[i] = byte(seed >> 24)
		}
		size := 20 + 4*(n%11)
		if size > len(b) {
			continue
		}
		b[0], b[2], b[3], b[6] = byte(64+size/4), 0, byte(len(b)), b[6]&127
		b = append(seal(b[:size]), b[size:]...)
		p, e := ip4.Parse(b)
		if e != api.OK {
			t.Fatalf("P3.2: Parse of %x: %d", b, e)
		}
		if c, e := ip4.Bytes(p); !bytes.Equal(c, b) || e != api.OK {
			t.Errorf("P3.4: %x comes back as %x, %d", b, c, e)
		}
	}
	// The other zero is taken, but not written.
	b := want(blank(func(p *api.Ip4) { p.Ttl, p.Proto = 64, 17; p.Id = 0x66d7 }))
	other := slices.Clone(b)
	other[10], other[11] = 255, 255
	p, e := ip4.Parse(other)
	if c, f := ip4.Bytes(p); e != api.OK || f != api.OK || !bytes.Equal(c, b) {
		t.Errorf("P3.4: %x, %d comes back as %x, %d", other, e, c, f)
	}
}
