package ip6_test

import (
	"bytes"
	"encoding/binary"
	"math"
	"reflect"
	"slices"
	"strings"
	"testing"

	"redoubt/api"
	"redoubt/ip6"
)

const (
	from = "\x20\x01\x0d\xb8\x00\x01\x02\x03\x04\x05\x06\x07\x08\x09\x0a\x0b"
	to   = "\xfe\x80\x10\x11\x12\x13\x14\x15\x16\x17\x18\x19\x1a\x1b\x1c\x1d"
)

// kinds are those of the extension headers.
var kinds = []int{0, 43, 44, 60}

// ext is an extension header with that many bytes of data, no two beside each
// other alike.
func ext(kind int, size int) api.Ext {
	b := make([]byte, size)
	for i := range b {
		b[i] = byte(0x80 + i*7 + kind)
	}
	return api.Ext{Kind: kind, Data: string(b)}
}

// good is a packet in which no two fields are alike, with each kind of an
// extension header.
func good() api.Ip6 {
	return api.Ip6{
		Class: 0x12, Label: 0x3456a, Hop: 0x78, Src: from, Dst: to,
		Exts: []api.Ext{ext(0, 14), ext(60, 6), ext(43, 22), ext(44, 7), ext(60, 14)},
		Next: 17, Data: []byte("some data"),
	}
}

// bare is a packet without extension headers, changed by turn.
func bare(turn func(p *api.Ip6)) api.Ip6 {
	p := api.Ip6{Hop: 64, Src: from, Dst: to, Next: 17, Data: []byte("data")}
	turn(&p)
	return p
}

// with is a packet with extension headers.
func with(list ...api.Ext) api.Ip6 {
	return bare(func(p *api.Ip6) { p.Exts = list })
}

// want tells the encoding of a packet in another way than from its front to its
// end: what follows is there first, and each header is put before it.
func want(p api.Ip6) []byte {
	rest, next := slices.Clone(p.Data), p.Next
	for _, x := range slices.Backward(p.Exts) {
		head := []byte{byte(next)}
		if x.Kind != 44 {
			head = append(head, byte((len(x.Data)+2)/8-1))
		}
		rest, next = slices.Concat(head, []byte(x.Data), rest), x.Kind
	}
	b := binary.BigEndian.AppendUint32(nil, uint32(6*268435456+p.Class*1048576+p.Label))
	b = binary.BigEndian.AppendUint32(b, uint32(len(rest)*65536+next*256+p.Hop))
	return slices.Concat(b, []byte(p.Src+p.Dst), rest)
}

// told is what Parse has to answer: the extension headers are cut off by their
// places in b.
func told(b []byte) (api.Ip6, api.Errno) {
	if len(b) < 40 {
		return api.Ip6{}, api.ErrMore
	}
	if b[0]/16 != 6 {
		return api.Ip6{}, api.ErrForm
	}
	if size := 40 + int(b[4])*256 + int(b[5]); len(b) < size {
		return api.Ip6{}, api.ErrMore
	} else if len(b) > size {
		return api.Ip6{}, api.ErrForm
	}
	word := int(binary.BigEndian.Uint32(b))
	p := api.Ip6{Class: word / 1048576 % 256, Label: word % 1048576, Hop: int(b[7]), Src: string(b[8:24]), Dst: string(b[24:40])}
	at, kindAt := 40, 6
	for slices.Contains(kinds, int(b[kindAt])) {
		kind := int(b[kindAt])
		if kind == 0 && at > 40 || at+2 > len(b) {
			return api.Ip6{}, api.ErrForm
		}
		data, end := at+2, at+8+8*int(b[at+1])
		if kind == 44 {
			data, end = at+1, at+8
		}
		if end > len(b) {
			return api.Ip6{}, api.ErrForm
		}
		p.Exts = append(p.Exts, api.Ext{Kind: kind, Data: string(b[data:end])})
		at, kindAt = end, at
	}
	p.Next, p.Data = int(b[kindAt]), slices.Clone(b[at:])
	return p, api.OK
}

// packets are valid ones of many shapes, the same in each run.
func packets() []api.Ip6 {
	zero, ones := strings.Repeat("\x00", 16), strings.Repeat("\xff", 16)
	out := []api.Ip6{good(), {Src: zero, Dst: zero, Next: 59}, {Class: 255, Label: 1048575, Hop: 255, Src: ones, Dst: ones, Next: 255, Data: []byte{255}}}
	sizes := []int{6, 14, 22, 2038, 2046}
	for i := range 300 {
		p := bare(func(p *api.Ip6) {
			p.Class, p.Label, p.Hop, p.Next = i*7%256, i*104729%1048576, i*13%256, 61+i%195
			p.Src, p.Dst = zero[:i%16]+string(rune('a'+i%26))+ones[i%16+1:], ones[:i%16]+"z"+zero[i%16+1:]
			p.Data = bytes.Repeat([]byte{byte(i * 37), byte(i)}, i%9)[:i%9]
		})
		for j := range i % 6 {
			kind := kinds[(i/6+j*i)%4]
			if kind == 44 {
				p.Exts = append(p.Exts, ext(44, 7))
			} else if kind != 0 || j == 0 {
				p.Exts = append(p.Exts, ext(kind, sizes[(i+j)%5]))
			}
		}
		out = append(out, p)
	}
	for _, n := range []int{0, 1, 255, 256, 65534, 65535} {
		out = append(out, bare(func(p *api.Ip6) { p.Data = bytes.Repeat([]byte{0xa5}, n) }))
	}
	return out
}

// same reports whether two packets are equal; of no data and of no extension
// headers there may be nil or an empty slice.
func same(p, q api.Ip6) bool {
	plain := func(p api.Ip6) api.Ip6 { p.Data, p.Exts = nil, nil; return p }
	return bytes.Equal(p.Data, q.Data) && slices.Equal(p.Exts, q.Exts) && reflect.DeepEqual(plain(p), plain(q))
}

// taken fails unless Check takes a packet and Bytes answers its encoding.
func taken(t *testing.T, what string, p api.Ip6) {
	t.Helper()
	if e := ip6.Check(p); e != api.OK {
		t.Errorf("P4.1: Check, %s: %d", what, e)
	}
	if b, e := ip6.Bytes(p); !bytes.Equal(b, want(p)) || e != api.OK {
		t.Errorf("P4.1: Bytes, %s: %d bytes %.100x, %d, not %.100x", what, len(b), b, e, want(p))
	}
}

// refused fails unless both Check and Bytes answer an error, and no bytes.
func refused(t *testing.T, what string, p api.Ip6, want api.Errno) {
	t.Helper()
	if e := ip6.Check(p); e != want {
		t.Errorf("P4.1: Check, %s: %d, not %d", what, e, want)
	}
	if b, e := ip6.Bytes(p); len(b) != 0 || e != want {
		t.Errorf("P4.1: Bytes, %s: %d bytes, %d, not %d", what, len(b), e, want)
	}
}

func TestBetween(t *testing.T) {
	try := func(kind int) {
		if got := ip6.Between(kind); got != slices.Contains(kinds, kind) {
			t.Errorf("P4.1: Between(%d): %v", kind, got)
		}
	}
	for kind := -1000; kind <= 66000; kind++ {
		try(kind)
	}
	for _, kind := range kinds {
		for _, far := range []int{1 << 16, 1 << 31, 1 << 32, math.MinInt64} {
			try(kind + far)
			try(kind - far)
		}
	}
	try(math.MaxInt64)
}

func TestBytes(t *testing.T) {
	zero := strings.Repeat("\x00", 15)
	a, b := strings.Repeat("a", 16), strings.Repeat("b", 16)
	for _, x := range []struct {
		p    api.Ip6
		text string
	}{
		{api.Ip6{Hop: 64, Next: 17, Src: zero + "\x00", Dst: zero + "\x01"}, "\x60\x00\x00\x00\x00\x00\x11\x40" + zero + "\x00" + zero + "\x01"},
		{
			api.Ip6{Class: 0xab, Label: 0xcdef0, Hop: 1, Src: a, Dst: b, Next: 59, Data: []byte("xyz")},
			"\x6a\xbc\xde\xf0\x00\x03\x3b\x01" + a + b + "xyz",
		},
		{
			api.Ip6{Hop: 255, Src: a, Dst: b, Exts: []api.Ext{{Kind: 43, Data: "14 bytes of it"}}, Next: 6, Data: []byte("xyz")},
			"\x60\x00\x00\x00\x00\x13\x2b\xff" + a + b + "\x06\x0114 bytes of it" + "xyz",
		},
		{
			api.Ip6{Src: b, Dst: a, Exts: []api.Ext{{Kind: 0, Data: "number"}, {Kind: 60, Data: "octets"}, {Kind: 44, Data: "seven7b"}}, Next: 255},
			"\x60\x00\x00\x00\x00\x18\x00\x00" + b + a + "\x3c\x00number" + "\x2c\x00octets" + "\xffseven7b",
		},
	} {
		if b, e := ip6.Bytes(x.p); string(b) != x.text || e != api.OK {
			t.Errorf("P4.1: Bytes of %#v: %x, %d, not %x", x.p, b, e, x.text)
		}
		if q, e := ip6.Parse([]byte(x.text)); !same(q, x.p) || e != api.OK {
			t.Errorf("P4.2: Parse of %x: %#v, %d, not %#v", x.text, q, e, x.p)
		}
	}
	for _, p := range packets() {
		taken(t, "a packet of many shapes", p)
	}
}

func TestFieldsOutOfRange(t *testing.T) {
	for _, f := range []struct {
		name string
		most int
		of   func(p *api.Ip6) *int
	}{
		{"Class", 255, func(p *api.Ip6) *int { return &p.Class }},
		{"Label", 1048575, func(p *api.Ip6) *int { return &p.Label }},
		{"Hop", 255, func(p *api.Ip6) *int { return &p.Hop }},
		{"Next", 255, func(p *api.Ip6) *int { return &p.Next }},
	} {
		for _, n := range []int{1, 2, f.most / 2, f.most - 1, f.most} {
			p := good()
			*f.of(&p) = n
			taken(t, f.name, p)
		}
		for _, n := range []int{-1, -2, -256, -1048576, f.most + 1, f.most + 18, 1048576, 1048577, 1<<28 + 1, 1<<32 + 1, math.MaxInt64, math.MinInt64, math.MinInt64 + 1} {
			p := good()
			*f.of(&p) = n
			refused(t, f.name, p, api.ErrArg)
		}
	}
	p := good()
	p.Class, p.Label, p.Hop = 0, 0, 0
	taken(t, "each at its least", p)
}

// Next is no kind of an extension header, whatever extension headers there are.
func TestNext(t *testing.T) {
	for _, list := range [][]api.Ext{nil, {ext(0, 6)}, {ext(44, 7)}, {ext(60, 14), ext(43, 6)}} {
		for next := -300; next <= 600; next++ {
			p := with(list...)
			p.Next = next
			if next < 0 || next > 255 || slices.Contains(kinds, next) {
				refused(t, "Next", p, api.ErrArg)
			} else {
				taken(t, "Next", p)
			}
		}
	}
}

func TestAddresses(t *testing.T) {
	for n := range 70 {
		s := strings.Repeat("\x01", n)
		if n != 16 {
			refused(t, "Src", bare(func(p *api.Ip6) { p.Src = s }), api.ErrArg)
			refused(t, "Dst", bare(func(p *api.Ip6) { p.Dst = s }), api.ErrArg)
			refused(t, "both of 32 bytes", bare(func(p *api.Ip6) { p.Src, p.Dst = s, strings.Repeat("\x01", max(0, 32-n)) }), api.ErrArg)
		}
	}
	taken(t, "16 bytes each", bare(func(p *api.Ip6) { p.Src, p.Dst = to, from }))
}

// Each kind at each of the first places, with data that some kind may have.
func TestKinds(t *testing.T) {
	for kind := -300; kind <= 600; kind++ {
		for place := range 4 {
			for _, size := range []int{6, 7} {
				list := []api.Ext{ext(43, 6), ext(44, 7), ext(60, 14)}
				p := with(slices.Insert(list, place, ext(kind, size))...)
				if slices.Contains(kinds, kind) && (kind == 44) == (size == 7) && (kind != 0 || place == 0) {
					taken(t, "an extension header", p)
				} else {
					refused(t, "an extension header", p, api.ErrArg)
				}
			}
		}
	}
	refused(t, "kind 0 twice", with(ext(0, 6), ext(0, 6)), api.ErrArg)
	refused(t, "kind 0 as the second of two", with(ext(44, 7), ext(0, 14)), api.ErrArg)
	taken(t, "the same kinds twice", with(ext(43, 6), ext(43, 6), ext(44, 7), ext(44, 7), ext(60, 6), ext(60, 6)))
	for _, kind := range []int{math.MinInt64, math.MaxInt64, 1<<32 + 43, 1<<32 + 60, 256 + 60} {
		refused(t, "a kind far off", with(ext(kind, 6)), api.ErrArg)
	}
}

// Each length of the data of an extension header, as the first and as the last.
func TestSizes(t *testing.T) {
	for _, kind := range kinds {
		for size := range 2100 {
			lists := [][]api.Ext{{ext(kind, size)}, {ext(kind, size), ext(60, 14)}}
			if kind != 0 {
				lists = append(lists, []api.Ext{ext(0, 6), ext(43, 14), ext(kind, size)})
			}
			right := size == 7
			if kind != 44 {
				right = size%8 == 6 && size <= 2046
			}
			for _, list := range lists {
				if right {
					taken(t, "data of an extension header", with(list...))
				} else {
					refused(t, "data of an extension header", with(list...), api.ErrArg)
				}
			}
		}
		for _, size := range []int{4094, 4095, 65534, 65535, 65542, 1 << 20} {
			refused(t, "data of an extension header", with(ext(kind, size)), api.ErrArg)
		}
	}
}

// 65535 bytes may follow the first 40, extension headers among them.
func TestLengths(t *testing.T) {
	many := slices.Repeat([]api.Ext{ext(60, 2046)}, 31)
	small := slices.Repeat([]api.Ext{ext(44, 7)}, 8191)
	for _, x := range []struct {
		list []api.Ext
		size int // of the extension headers
	}{
		{nil, 0}, {[]api.Ext{ext(44, 7)}, 8}, {[]api.Ext{ext(0, 6)}, 8}, {[]api.Ext{ext(60, 2046)}, 2048},
		{[]api.Ext{ext(0, 14), ext(44, 7), ext(43, 22)}, 48}, {many, 63488}, {small, 65528},
	} {
		p := with(x.list...)
		p.Data = bytes.Repeat([]byte{0x5a}, 65535-x.size)
		taken(t, "65535 bytes", p)
		if b, e := ip6.Bytes(p); len(b) != 65575 || e != api.OK || b[4] != 255 || b[5] != 255 {
			t.Errorf("P4.1: 65535 bytes after the first 40: %d bytes, %d", len(b), e)
		}
		if q, e := ip6.Parse(want(p)); !same(q, p) || e != api.OK {
			t.Errorf("P4.3: 65535 bytes after the first 40: %d extension headers, %d bytes, %d", len(q.Exts), len(q.Data), e)
		}
		for _, more := range []int{1, 2, 8, 40, 65536, 1 << 20} {
			p.Data = make([]byte, 65535-x.size+more)
			refused(t, "too much data", p, api.ErrLong)
		}
	}
	p := with(append(many, ext(43, 2038))...)
	p.Data = make([]byte, 7)
	taken(t, "little data in 65535 bytes", p)
	p.Data = make([]byte, 8)
	refused(t, "little data in 65536 bytes", p, api.ErrLong)
	p = with(append(many, ext(43, 2046))...)
	p.Data = nil
	refused(t, "65536 bytes of extension headers", p, api.ErrLong)
	refused(t, "many extension headers", with(slices.Repeat([]api.Ext{ext(43, 2046)}, 100)...), api.ErrLong)
}

// A packet that is not valid and too long is refused because it is not valid.
func TestNotValidBeforeTooLong(t *testing.T) {
	for i, turn := range []func(p *api.Ip6){
		func(p *api.Ip6) { p.Class = 256 }, func(p *api.Ip6) { p.Label = 1048576 }, func(p *api.Ip6) { p.Hop = -1 }, func(p *api.Ip6) { p.Next = 256 },
		func(p *api.Ip6) { p.Next = 60 }, func(p *api.Ip6) { p.Src = "" }, func(p *api.Ip6) { p.Dst = "1234" },
		func(p *api.Ip6) { p.Exts = append(p.Exts, ext(0, 6)) }, func(p *api.Ip6) { p.Exts = append(p.Exts, ext(17, 6)) },
		func(p *api.Ip6) { p.Exts = append(p.Exts, ext(60, 7)) }, func(p *api.Ip6) { p.Exts = append(p.Exts, ext(44, 6)) },
		func(p *api.Ip6) { p.Exts = append(p.Exts, ext(43, 65536)) },
	} {
		p := good()
		p.Data = make([]byte, 70000)
		turn(&p)
		refused(t, "fault "+string(rune('a'+i))+" beside too much data", p, api.ErrArg)
	}
}

// What is passed stays as it is, its spare capacity too, and what is answered
// stays as it is when that is altered.
func TestMemory(t *testing.T) {
	room, list := []byte("data and what stands behind it"), append(good().Exts, ext(43, 6))
	p := good()
	p.Data, p.Exts = room[:4], list[:5]
	b, _ := ip6.Bytes(p)
	ip6.Check(p)
	kept := slices.Clone(b)
	if string(room) != "data and what stands behind it" || !slices.Equal(list, append(good().Exts, ext(43, 6))) {
		t.Errorf("P4.1: Bytes altered its argument: %s, %#v", room, list)
	}
	room[0], list[0].Kind = 'X', 60
	if !bytes.Equal(b, kept) {
		t.Error("P4.1: Bytes shares memory with its argument")
	}
	b = append(kept, "behind"...)[:len(kept)]
	q, _ := ip6.Parse(b)
	if !bytes.Equal(b[:len(b)+6], append(slices.Clone(kept), "behind"...)) {
		t.Error("P4.2: Parse altered its argument")
	}
	clear(b)
	if want := good(); string(q.Data) != "data" || q.Src != want.Src || q.Dst != want.Dst || !slices.Equal(q.Exts, want.Exts) {
		t.Errorf("P4.2: Parse shares memory with its argument: %#v", q)
	}
}

// parses fails unless Parse answers what told tells.
func parses(t *testing.T, what string, b []byte) {
	t.Helper()
	want, wantE := told(b)
	got, e := ip6.Parse(b)
	if e != wantE || !same(got, want) || e != api.OK && !reflect.DeepEqual(got, api.Ip6{}) {
		t.Errorf("P4.2: Parse, %s: %d, not %d: %.300x", what, e, wantE, b)
	}
}

// noPacket fails unless Parse answers an error, and nothing else.
func noPacket(t *testing.T, what string, b []byte, want api.Errno) {
	t.Helper()
	if p, e := ip6.Parse(b); !reflect.DeepEqual(p, api.Ip6{}) || e != want {
		t.Errorf("P4.2: Parse, %s: %d extension headers, %d, not %d", what, len(p.Exts), e, want)
	}
}

func TestParse(t *testing.T) {
	for _, p := range packets() {
		q, e := ip6.Parse(want(p))
		if !same(q, p) || e != api.OK {
			t.Errorf("P4.2: %#v, %d, not %#v", q, e, p)
		}
	}
}

func TestParseCutOff(t *testing.T) {
	for _, p := range packets() {
		b := want(p)
		step := 1 + len(b)/500
		for n := 0; n < len(b); n += step {
			noPacket(t, "cut off", b[:n], api.ErrMore)
		}
		noPacket(t, "without its last byte", b[:len(b)-1], api.ErrMore)
		for _, more := range []int{1, 2, 8, 40, 65536} {
			noPacket(t, "with bytes behind it", append(slices.Clone(b), make([]byte, more)...), api.ErrForm)
		}
	}
	for n := range len(want(good())) {
		noPacket(t, "cut off", want(good())[:n], api.ErrMore)
	}
	noPacket(t, "nil", nil, api.ErrMore)
	noPacket(t, "39 bytes of the example", want(api.Ip6{Hop: 64, Next: 17, Src: from, Dst: to})[:39], api.ErrMore)
}

// Each first byte: another version than 6 has no form, whatever follows.
func TestParseVersion(t *testing.T) {
	for _, p := range []api.Ip6{good(), with(), with(ext(0, 14))} {
		for first := range 256 {
			b := want(p)
			b[0] = byte(first)
			if first/16 != 6 {
				noPacket(t, "another version", b, api.ErrForm)
				noPacket(t, "another version of too few bytes", b[:40], api.ErrForm)
				noPacket(t, "another version of 39 bytes", b[:39], api.ErrMore)
				continue
			}
			q, e := ip6.Parse(b)
			p.Class = first%16*16 + p.Class%16
			if e != api.OK || !same(q, p) {
				t.Errorf("P4.2: first byte %x: %#v, %d", first, q, e)
			}
		}
	}
}

// Each length field, of a packet with 13 bytes of data behind a header.
func TestParseLength(t *testing.T) {
	p := with(ext(60, 6))
	p.Data = []byte("thirteen byte")
	for n := range 65536 {
		b := want(p)
		b[4], b[5] = byte(n/256), byte(n%256)
		want := api.OK
		if n > 21 {
			want = api.ErrMore
		} else if n < 21 {
			want = api.ErrForm
		}
		if q, e := ip6.Parse(b); e != want || e == api.OK && !same(q, p) || e != api.OK && !reflect.DeepEqual(q, api.Ip6{}) {
			t.Errorf("P4.2: length %d of 21: %#v, %d, not %d", n, q, e, want)
		}
	}
}

// cutInside is the encoding of a packet of which only the first n bytes are
// there, and whose length field says so.
func cutInside(p api.Ip6, n int) []byte {
	b := want(p)[:n]
	b[4], b[5] = byte((n-40)/256), byte((n-40)%256)
	return b
}

// An extension header ends before the packet does, whatever its kind.
func TestParseContained(t *testing.T) {
	for _, kind := range kinds {
		for _, size := range []int{6, 14, 22, 2046} {
			if kind == 44 {
				size = 7
			}
			p := with(ext(kind, size))
			if kind != 0 {
				p.Exts = []api.Ext{ext(43, 14), ext(kind, size)}
			}
			end := len(want(p)) - len(p.Data)
			for n := 40; n <= end+len(p.Data); n++ {
				b := cutInside(p, n)
				if n < end {
					noPacket(t, "an extension header that is not contained", b, api.ErrForm)
					continue
				}
				q, e := ip6.Parse(b)
				if e != api.OK || !slices.Equal(q.Exts, p.Exts) || string(q.Data) != string(p.Data[:n-end]) {
					t.Errorf("P4.2: an extension header of kind %d with %d bytes behind it: %#v, %d", kind, n-end, q, e)
				}
			}
		}
	}
	for n := 40; n <= len(want(good())); n++ {
		parses(t, "cut off inside", cutInside(good(), n))
	}
}

// Each length byte: a header of kind 44 has none, and 8 bytes whatever there is.
func TestParseLengthByte(t *testing.T) {
	for _, kind := range kinds {
		for _, room := range []int{8, 16, 1024, 2040, 2047, 2048, 2049, 4096} {
			for n := range 256 {
				p := bare(func(p *api.Ip6) { p.Next, p.Data = kind, make([]byte, room) })
				p.Data[0], p.Data[1] = 17, byte(n)
				size := 8 + 8*n
				if kind == 44 {
					size = 8
				}
				if size > room {
					noPacket(t, "a length byte beyond the end", want(p), api.ErrForm)
					continue
				}
				q, e := ip6.Parse(want(p))
				if e != api.OK || len(q.Exts) != 1 || q.Exts[0].Kind != kind || q.Next != 17 || len(q.Data) != room-size {
					t.Errorf("P4.2: kind %d, length byte %d in %d: %d extension headers, %d", kind, n, room, len(q.Exts), e)
				}
			}
		}
	}
}

// A header of kind 0 that is not the first one has no form.
func TestParseHopByHop(t *testing.T) {
	for _, size := range []int{6, 14} {
		for _, first := range []api.Ext{ext(0, 6), ext(43, 6), ext(44, 7), ext(60, 14)} {
			noPacket(t, "kind 0 as the second", want(with(first, ext(0, size))), api.ErrForm)
			noPacket(t, "kind 0 in the midst", want(with(first, ext(0, size), ext(60, 6))), api.ErrForm)
			noPacket(t, "kind 0 as the third", want(with(first, ext(44, 7), ext(0, size))), api.ErrForm)
		}
	}
	parses(t, "kind 0 as the first", want(with(ext(0, 14), ext(60, 6))))
	p := with(ext(43, 6))
	p.Next, p.Data = 0, nil
	noPacket(t, "kind 0 behind the end", want(p), api.ErrForm)
}

// Of several faults the first one in the order of the promise is told.
func TestParseOrder(t *testing.T) {
	version := func(b []byte) []byte { b[0] = 0x45; return b }
	long := func(b []byte) []byte { b[4] = 1; return b }
	short := func(b []byte) []byte { b[5] = 4; return b }
	tail := func(b []byte) []byte { return append(b, 0) }
	cut := func(b []byte) []byte { return b[:39] }
	hop := func(b []byte) []byte { b[40] = 0; return b }
	wide := func(b []byte) []byte { b[41] = 255; return b }
	for _, x := range []struct {
		what  string
		turns []func(b []byte) []byte
		want  api.Errno
	}{
		{"cut before version", []func(b []byte) []byte{version, hop, wide, cut}, api.ErrMore},
		{"version before too few bytes", []func(b []byte) []byte{version, long}, api.ErrForm},
		{"version before too many bytes", []func(b []byte) []byte{version, tail}, api.ErrForm},
		{"too few bytes before kind 0", []func(b []byte) []byte{long, hop}, api.ErrMore},
		{"too few bytes before a wide header", []func(b []byte) []byte{long, wide}, api.ErrMore},
		{"too many bytes before kind 0", []func(b []byte) []byte{tail, hop}, api.ErrForm},
		{"a length within an extension header", []func(b []byte) []byte{short}, api.ErrForm},
		{"kind 0", []func(b []byte) []byte{hop}, api.ErrForm},
		{"a wide header", []func(b []byte) []byte{wide}, api.ErrForm},
	} {
		b := want(with(ext(60, 6), ext(43, 6)))
		for _, turn := range x.turns {
			b = turn(b)
		}
		noPacket(t, x.what, b, x.want)
	}
}

// Each byte of a packet at each value: what Parse answers is what told tells,
// and what it takes is encoded to the same bytes.
func TestAltered(t *testing.T) {
	for _, p := range []api.Ip6{good(), with(), with(ext(44, 7)), with(ext(0, 6), ext(60, 6), ext(43, 6))} {
		b := want(p)
		for at := range b {
			for n := range 256 {
				c := slices.Clone(b)
				c[at] = byte(n)
				parses(t, "a byte altered", c)
				backAndForth(t, c)
			}
		}
	}
}

// backAndForth fails unless bytes that parse are what the packet is encoded to.
func backAndForth(t *testing.T, b []byte) {
	t.Helper()
	p, e := ip6.Parse(b)
	if e != api.OK {
		return
	}
	if e := ip6.Check(p); e != api.OK {
		t.Errorf("P4.3: Check of what was parsed: %d: %.300x", e, b)
	}
	if c, e := ip6.Bytes(p); !bytes.Equal(b, c) || e != api.OK {
		t.Errorf("P4.3: %.300x, %d, not %.300x", c, e, b)
	}
}

func TestThereAndBack(t *testing.T) {
	for _, p := range packets() {
		b, e := ip6.Bytes(p)
		q, e2 := ip6.Parse(b)
		if e != api.OK || e2 != api.OK || !same(p, q) {
			t.Errorf("P4.3: %#v, %d, %d, not %#v", q, e, e2, p)
		}
		backAndForth(t, b)
	}
}

// Chains of headers out of a few bytes, most of them with a fault.
func TestChains(t *testing.T) {
	few := []byte{0, 43, 44, 60, 17, 1, 255}
	state := uint32(1)
	pick := func() byte {
		state = state*1664525 + 1013904223
		return few[state>>16%uint32(len(few))]
	}
	good := 0
	for i := range 200000 {
		b := make([]byte, 40+i%67)
		for at := range b {
			b[at] = pick()
		}
		b[0], b[4], b[5] = 0x60, 0, byte(i%67)
		parses(t, "a chain", b)
		backAndForth(t, b)
		if p, e := ip6.Parse(b); e == api.OK && len(p.Exts) > 1 {
			good++
		}
	}
	if good < 1000 {
		t.Errorf("P4.2: only %d chains are packets", good)
	}
}
