// Package inet is layer 1: the Internet checksum (RFC 1071), and its update
// after a change of one word (RFC 1624).
package inet

import "redoubt/api"

const (
	most     = 65535 // the greatest word
	mostWide = 4294967295
)

// low is the word that an int stands for. A mask keeps negative ints right too,
// where a remainder would be negative.
func low(n int) int { return n & most }

// Add returns the one's complement sum of two words.
func Add(a int, b int) int {
	n := low(a) + low(b)
	if n > most {
		n -= most
	}
	return n
}

// first reads the word at the beginning of b. A last byte without a partner is
// the high-order byte of its word.
func first(b []byte) int {
	n := 0
	switch {
	case len(b) > 1:
		n = int(b[1])
		fallthrough
	case len(b) == 1:
		n += int(b[0]) << 8
	}
	return n
}

// Sum adds the words of b.
func Sum(b []byte) int {
	sum := 0
	for at := 0; at < len(b); at += 2 {
		sum = Add(sum, first(b[at:]))
	}
	return sum
}

// Check returns the checksum of b: the word that makes its Sum 65535.
func Check(b []byte) int { return most - Sum(b) }

// Turn returns what a checksum becomes when one word of the bytes that it is
// for, was, is replaced by another one, now.
func Turn(check int, was int, now int) int {
	rest := Add(most-low(check), most-low(was))
	return most - Add(rest, now)
}

// Pseudo returns the Sum of the pseudo-header of n bytes of a protocol between
// two addresses of the same version.
func Pseudo(src string, dst string, proto int, n int) (int, api.Errno) {
	if proto < 0 || proto > 255 || n < 0 || n > longest(src, dst) {
		return 0, api.ErrArg
	}
	header := append([]byte(src), dst...)
	if len(src) == 4 {
		header = append(header, 0, byte(proto), byte(n>>8), byte(n))
	} else {
		header = append(header, byte(n>>24), byte(n>>16), byte(n>>8), byte(n), 0, 0, 0, byte(proto))
	}
	return Sum(header), api.OK
}

// longest is the greatest length that a pseudo-header between two addresses can
// hold; -1 if the addresses are not of one version.
func longest(src string, dst string) int {
	switch {
	case len(src) == 4 && len(dst) == 4:
		return most
	case len(src) == 16 && len(dst) == 16:
		return mostWide
	}
	return -1
}
