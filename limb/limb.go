// Package limb: sums, products and quotients of numbers of 64 bits, whole (chapter 1).
package limb

import (
	"math/bits"

	"sponsion/api"
)

// A quotient is found in two digits, each half a limb wide, so that what a guess of one is held against fits in a limb.
const (
	digitBits = 32
	maxDigit  = 1<<digitBits - 1
)

// Add: a sum, and its carry.
func Add(a, b, carry uint64) (sum, out uint64) { return bits.Add64(a, b, one(carry)) }

// Sub: a difference, and its borrow.
func Sub(a, b, borrow uint64) (diff, out uint64) { return bits.Sub64(a, b, one(borrow)) }

// one: what a carry counts as; bits.Add64 and bits.Sub64 promise nothing of one above 1.
func one(carry uint64) uint64 {
	if carry != 0 {
		return 1
	}
	return 0
}

// Mul: a product.
func Mul(a, b uint64) (hi, lo uint64) { return bits.Mul64(a, b) }

// Div: a quotient, and what is left.
func Div(hi, lo, y uint64) (q, r uint64, e api.Errno) {
	if y == 0 {
		return 0, 0, api.ErrZero
	}
	if hi >= y {
		return 0, 0, api.ErrOverflow
	}
	// Shifting all alike leaves the quotient as it is; with y's highest bit set a guess is at most 2 too great.
	shift := 64 - Len(y)
	y <<= shift
	r = hi<<shift | lo>>(64-shift)
	lo <<= shift
	high, r := digit(r, lo>>digitBits, y)
	low, r := digit(r, lo&maxDigit, y)
	return high<<digitBits | low, r >> shift, api.OK
}

// digit: rest with the digit next behind it, by y, and what is left. The rest is below y, and y's highest bit is set.
func digit(rest, next, y uint64) (q, left uint64) {
	top, bottom := y>>digitBits, y&maxDigit
	q = rest / top
	over := rest % top
mend:
	// Just then is q too great. Its product fits in a limb: a guess is at most 2^32 + 1, as rest is below y.
	if q*bottom > over<<digitBits|next {
		q--
		over += top
		// Once over is more than a digit, q can't be too great any more, and the shift would lose bits.
		if over <= maxDigit {
			goto mend
		}
	}
	// Both sides of the difference may pass 2^64; what is left is below y, so it is right modulo 2^64.
	return q, rest<<digitBits + next - q*y
}

// Len: how many bits.
func Len(x uint64) int { return bits.Len64(x) }
