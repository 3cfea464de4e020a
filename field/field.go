// Package field is layer 1: see shared/doc/01-field.md.
package field

// wordBits is how many bits a word has.
const wordBits = 64

// signs are the signs of a word's text, each standing at its own number; a sign is a field of signBits.
const (
	signs    = "0123456789abcdef"
	signBits = 4
)

// May tells whether there is such a field.
func May(place, size int) bool {
	// The sum of place and size is not formed: it may wrap round.
	return place >= 0 && size >= 1 && size <= wordBits && place <= wordBits-size
}

// Get is the number in a field.
func Get(w uint64, place, size int) uint64 {
	if !May(place, size) {
		return 0
	}
	return (w >> place) & ones(size)
}

// Put is a word with a number in a field.
func Put(w uint64, place, size int, v uint64) uint64 {
	if !May(place, size) {
		return w
	}
	return (w &^ Mask(place, size)) | (v&ones(size))<<place
}

// Fits tells whether a number has room.
func Fits(v uint64, size int) bool {
	// A shift by a word's width or more leaves 0, so that sizes above 63 have room for all.
	return size >= 1 && v>>size == 0
}

// Mask is a field's bits.
func Mask(place, size int) uint64 {
	if !May(place, size) {
		return 0
	}
	return ones(size) << place
}

// Bit tells whether a bit is 1.
func Bit(w uint64, place int) bool { return Get(w, place, 1) == 1 }

// Set is a word with a bit.
func Set(w uint64, place int, is bool) uint64 {
	if is {
		return Put(w, place, 1, 1)
	}
	return Put(w, place, 1, 0)
}

// Hex is a word's signs.
func Hex(w uint64) string {
	b := make([]byte, 0, wordBits/signBits)
	for place := wordBits - signBits; place >= 0; place -= signBits {
		b = append(b, signs[Get(w, place, signBits)])
	}
	return string(b)
}

// Read is the word of signs.
func Read(s string) (uint64, bool) {
	if len(s) != wordBits/signBits {
		return 0, false
	}
	w := uint64(0)
	for _, r := range s {
		v, is := number(r)
		if !is {
			return 0, false
		}
		w = w<<signBits | v
	}
	return w, true
}

// number is the number that a sign stands for.
func number(sign rune) (uint64, bool) {
	for i, r := range signs {
		if r == sign {
			return uint64(i), true
		}
	}
	return 0, false
}

// ones is the word whose least bits, size of them, are 1: of the whole word 1 is shifted out, and 0 less 1 is all of them.
func ones(size int) uint64 { return uint64(1)<<size - 1 }
