// Package gauss is layer 1: see shared/doc/01-gauss.md.
package gauss

import (
	"math"

	"fathom/api"
)

// Make: the number of these parts. ErrRange.
func Make(re, im int) (complex128, api.Errno) {
	if re < -api.Most || re > api.Most || im < -api.Most || im > api.Most {
		return 0, api.ErrRange
	}
	return complex(float64(re), float64(im)), api.OK
}

// Valid: is it a number?
func Valid(z complex128) bool { return validPart(real(z)) && validPart(imag(z)) }

func validPart(x float64) bool {
	if x == 0 {
		return !math.Signbit(x)
	}
	return within(x) && math.Trunc(x) == x
}

// A NaN is not within either: no comparison holds for it.
func within(x float64) bool { return -api.Most <= x && x <= api.Most }

// Parts: the real and the imaginary one. ErrShape.
func Parts(z complex128) (int, int, api.Errno) {
	if !Valid(z) {
		return 0, 0, api.ErrShape
	}
	return int(real(z)), int(imag(z)), api.OK
}

// Add: the sum. ErrShape, TrapOver.
func Add(a, b complex128) (complex128, api.Errno) {
	if !Valid(a) || !Valid(b) {
		return 0, api.ErrShape
	}
	return settle(a + b)
}

// Sub: the difference. ErrShape, TrapOver.
func Sub(a, b complex128) (complex128, api.Errno) {
	if !Valid(a) || !Valid(b) {
		return 0, api.ErrShape
	}
	return settle(a - b)
}

// Mul: the product. ErrShape, TrapOver.
//
// No part of a product of numbers is above 2*Most*Most, which is 2^49: a float holds it exactly.
func Mul(a, b complex128) (complex128, api.Errno) {
	if !Valid(a) || !Valid(b) {
		return 0, api.ErrShape
	}
	return settle(a * b)
}

// Quo: the quotient. ErrShape, TrapDiv, TrapOver.
//
// a/b is a times b's conjugate over b times it, and that divisor is a whole number above 0. The parts are divided as
// integers, since floats would round a quotient that isn't whole.
func Quo(a, b complex128) (complex128, api.Errno) {
	if !Valid(a) || !Valid(b) {
		return 0, api.ErrShape
	}
	if b == 0 {
		return 0, api.TrapDiv
	}
	turned := turn(b)
	top, norm := a*turned, int64(real(b*turned))
	x, y := int64(real(top)), int64(imag(top))
	if x%norm != 0 || y%norm != 0 {
		return 0, api.TrapDiv
	}
	return settle(complex(float64(x/norm), float64(y/norm)))
}

// Conj: with the imaginary part turned round. ErrShape.
func Conj(a complex128) (complex128, api.Errno) {
	if !Valid(a) {
		return 0, api.ErrShape
	}
	return settle(turn(a))
}

// Its answer may have -0 in a part: settle makes a number of it.
func turn(z complex128) complex128 { return complex(real(z), -imag(z)) }

// The way through integers makes +0 of -0, which float products such as 0 * -5 have and no number may have.
func settle(z complex128) (complex128, api.Errno) {
	if !within(real(z)) || !within(imag(z)) {
		return 0, api.TrapOver
	}
	return Make(int(real(z)), int(imag(z)))
}

// Less: by the real parts, then by the imaginary ones. ErrShape.
func Less(a, b complex128) (bool, api.Errno) {
	if !Valid(a) || !Valid(b) {
		return false, api.ErrShape
	}
	if real(a) != real(b) {
		return real(a) < real(b), api.OK
	}
	return imag(a) < imag(b), api.OK
}
