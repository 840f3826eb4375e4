package gate

import (
	"redoubt/api"
	"redoubt/ip4"
	"redoubt/ip6"
)

const (
	size4    = 4 // bytes of an address
	size6    = 16
	version4 = 4 // the first four bits of an encoding
	version6 = 6
)

// Wire returns the encoding of a packet.
func Wire(p api.Pack) ([]byte, api.Errno) {
	switch {
	case len(p.Src) == size4 && len(p.Dst) == size4:
		return ip4.Bytes(api.Ip4{Src: p.Src, Dst: p.Dst, Proto: p.Proto, Ttl: p.Ttl, Id: p.Id, Df: p.Df, Data: p.Data})
	case len(p.Src) == size6 && len(p.Dst) == size6:
		return ip6.Bytes(api.Ip6{Src: p.Src, Dst: p.Dst, Next: p.Proto, Hop: p.Ttl, Data: p.Data})
	}
	return nil, api.ErrArg
}

// begins reports whether bytes begin with the version of an encoding.
func begins(b []byte, version int) bool {
	return len(b) > 0 && int(b[0]>>4) == version
}

// Unwire returns the packet of an encoding.
func Unwire(b []byte) (api.Pack, api.Errno) {
	switch {
	case len(b) == 0:
		return api.Pack{}, api.ErrMore
	case begins(b, version4):
		return unwire4(b)
	case begins(b, version6):
		return unwire6(b)
	}
	return api.Pack{}, api.ErrForm
}

// unwire4 returns the packet of an encoding of IPv4.
func unwire4(b []byte) (api.Pack, api.Errno) {
	p, e := ip4.Parse(b)
	switch {
	case e != api.OK:
		return api.Pack{}, e
	case p.Off != 0, p.Mf, p.Options != "":
		return api.Pack{}, api.ErrForm
	}
	return api.Pack{Src: p.Src, Dst: p.Dst, Proto: p.Proto, Ttl: p.Ttl, Id: p.Id, Df: p.Df, Data: p.Data}, api.OK
}

// unwire6 returns the packet of an encoding of IPv6. It has neither Id nor Df: no
// router divides a packet of IPv6.
func unwire6(b []byte) (api.Pack, api.Errno) {
	p, e := ip6.Parse(b)
	switch {
	case e != api.OK:
		return api.Pack{}, e
	case len(p.Exts) > 0:
		return api.Pack{}, api.ErrForm
	}
	return api.Pack{Src: p.Src, Dst: p.Dst, Proto: p.Next, Ttl: p.Hop, Data: p.Data}, api.OK
}
