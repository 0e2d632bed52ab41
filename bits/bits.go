// Package bits: fields of words: layer 1: see shared/doc/01-bits.md.
package bits

import "catnap/api"

// wordBits is how many bits a word has.
const wordBits = 32

// right tells whether a field lies within a word.
func right(low, many int) bool {
	// low is held against the bits that are left, as low+many goes round for great ints
	return many >= 1 && many <= wordBits && low >= 0 && low <= wordBits-many
}

// masks answers what tells the mask of that many bits, from any bit on: from bit 0 it is the room that a number has, from the field's low its place in the word.
func masks(many int) func(low int) uint32 {
	// of 32 bits the one falls out at the top, and 0 less 1 goes round to all bits
	ones := uint32(1)<<uint(many) - 1
	return func(low int) uint32 { return ones << uint(low) }
}

// Get is a field's number, Put puts one in, Signed is one with a sign.
func Get(w uint32, low, many int) (uint32, api.Errno) {
	if !right(low, many) {
		return 0, api.ErrRange
	}
	mask := masks(many)
	return (w & mask(low)) >> uint(low), api.OK
}

func Put(w uint32, low, many int, v uint32) (uint32, api.Errno) {
	if !right(low, many) {
		return 0, api.ErrRange
	}
	mask := masks(many)
	if v&^mask(0) != 0 {
		return 0, api.ErrArg
	}
	return w&^mask(low) | v<<uint(low), api.OK
}

func Signed(w uint32, low, many int) (int32, api.Errno) {
	n, err := Get(w, low, many)
	if err != api.OK {
		return 0, err
	}
	// the field's highest bit is brought to the sign's place, so that shifting back copies it downwards
	spare := uint(wordBits - many)
	return int32(n<<spare) >> spare, api.OK
}

// Count is how many bits are set, Turn turns a word round.
func Count(w uint32) int {
	n := 0
	for ; w != 0; w &= w - 1 { // takes away the lowest bit that is set
		n++
	}
	return n
}

func Turn(w uint32, by int) uint32 {
	// an int below 0 converts by adding 2^64, a multiple of 32, so that what is left over is right for it, too
	up := uint(by) % wordBits
	return w<<up | w>>(wordBits-up)
}
