// Package octet is layer 1: bytes, and which of them may make a rune: see shared/doc/01-octet.md.
package octet

import "galley/api"

// The classes once more, one byte each, so that the table holds small numbers.
const (
	plain = uint8(api.Plain)
	tail  = uint8(api.Tail)
	lead2 = uint8(api.Lead2)
	lead3 = uint8(api.Lead3)
	lead4 = uint8(api.Lead4)
	never = uint8(api.Never)
)

// classes is indexed by the byte itself. It ends with F4, the last byte that stands in any encoding, because a package-level table may hold no more than some 250 numbers.
var classes = [0xF5]uint8{
	plain, plain, plain, plain, plain, plain, plain, plain, plain, plain, plain, plain, plain, plain, plain, plain, // 00
	plain, plain, plain, plain, plain, plain, plain, plain, plain, plain, plain, plain, plain, plain, plain, plain, // 10
	plain, plain, plain, plain, plain, plain, plain, plain, plain, plain, plain, plain, plain, plain, plain, plain, // 20
	plain, plain, plain, plain, plain, plain, plain, plain, plain, plain, plain, plain, plain, plain, plain, plain, // 30
	plain, plain, plain, plain, plain, plain, plain, plain, plain, plain, plain, plain, plain, plain, plain, plain, // 40
	plain, plain, plain, plain, plain, plain, plain, plain, plain, plain, plain, plain, plain, plain, plain, plain, // 50
	plain, plain, plain, plain, plain, plain, plain, plain, plain, plain, plain, plain, plain, plain, plain, plain, // 60
	plain, plain, plain, plain, plain, plain, plain, plain, plain, plain, plain, plain, plain, plain, plain, plain, // 70
	tail, tail, tail, tail, tail, tail, tail, tail, tail, tail, tail, tail, tail, tail, tail, tail, // 80
	tail, tail, tail, tail, tail, tail, tail, tail, tail, tail, tail, tail, tail, tail, tail, tail, // 90
	tail, tail, tail, tail, tail, tail, tail, tail, tail, tail, tail, tail, tail, tail, tail, tail, // A0
	tail, tail, tail, tail, tail, tail, tail, tail, tail, tail, tail, tail, tail, tail, tail, tail, // B0
	never, never, lead2, lead2, lead2, lead2, lead2, lead2, lead2, lead2, lead2, lead2, lead2, lead2, lead2, lead2, // C0
	lead2, lead2, lead2, lead2, lead2, lead2, lead2, lead2, lead2, lead2, lead2, lead2, lead2, lead2, lead2, lead2, // D0
	lead3, lead3, lead3, lead3, lead3, lead3, lead3, lead3, lead3, lead3, lead3, lead3, lead3, lead3, lead3, lead3, // E0
	lead4, lead4, lead4, lead4, lead4, // F0
}

// standIn is the rune that is told in the place of a number that is none.
const standIn = 0xFFFD

// Class: a byte's class.
func Class(b byte) api.Class {
	if int(b) >= len(classes) {
		return api.Never
	}
	return api.Class(classes[b])
}

// Need: how many bytes an encoding has that begins with this one; 0: none does.
func Need(b byte) int {
	switch Class(b) {
	case api.Plain:
		return 1
	case api.Lead2:
		return 2
	case api.Lead3:
		return 3
	case api.Lead4:
		return 4
	}
	return 0
}

// Second: may this byte be the second one behind that lead?
func Second(lead, b byte) bool {
	if Need(lead) < 2 || Class(b) != api.Tail {
		return false
	}
	// Less behind E0 or F0 would be a rune that has a shorter encoding; more behind ED would be D800 to DFFF; more behind F4 would be above 10FFFF.
	switch lead {
	case 0xE0:
		return b >= 0xA0
	case 0xED:
		return b <= 0x9F
	case 0xF0:
		return b >= 0x90
	case 0xF4:
		return b <= 0x8F
	}
	return true
}

// Whole: are these bytes just one rune's encoding?
func Whole(b []byte) bool {
	if len(b) == 0 || len(b) != Need(b[0]) {
		return false
	}
	if len(b) == 1 {
		return true
	}
	return Second(b[0], b[1]) && allTails(b[2:])
}

func allTails(b []byte) bool {
	for _, t := range b {
		if Class(t) != api.Tail {
			return false
		}
	}
	return true
}

// Value: the rune that such bytes encode; -1: they encode none.
func Value(b []byte) rune {
	if !Whole(b) {
		return -1
	}
	r := leadBits(b[0])
	for _, t := range b[1:] {
		r = r<<6 | rune(t%64)
	}
	return r
}

// leadBits: what the first byte of an encoding gives to its rune.
func leadBits(b byte) rune {
	switch Need(b) {
	case 2:
		return rune(b % 32)
	case 3:
		return rune(b % 16)
	case 4:
		return rune(b % 8)
	}
	return rune(b)
}

// Bytes: a rune's encoding; of what is no rune that of U+FFFD.
func Bytes(r rune) []byte {
	if !isRune(r) {
		r = standIn
	}
	switch {
	case r < 0x80:
		return []byte{byte(r)}
	case r < 0x800:
		return []byte{0xC0 | byte(r>>6), tailOf(r)}
	case r < 0x10000:
		return []byte{0xE0 | byte(r>>12), tailOf(r >> 6), tailOf(r)}
	}
	return []byte{0xF0 | byte(r>>18), tailOf(r >> 12), tailOf(r >> 6), tailOf(r)}
}

func isRune(r rune) bool {
	return 0 <= r && r < 0xD800 || 0xDFFF < r && r <= 0x10FFFF
}

// tailOf: the Tail that carries the six lowest bits.
func tailOf(r rune) byte {
	return 0x80 | byte(r&0x3F)
}
