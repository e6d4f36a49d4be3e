package gauss

import (
	"strconv"
	"strings"

	"fathom/api"
)

// Text: of a number. ErrShape.
func Text(z complex128) (string, api.Errno) {
	x, y, e := Parts(z)
	if e != api.OK {
		return "", e
	}
	if y == 0 {
		return strconv.Itoa(x), api.OK
	}
	imaginary := strconv.Itoa(y) + "i"
	switch {
	case x == 0:
		return imaginary, api.OK
	case y > 0:
		return strconv.Itoa(x) + "+" + imaginary, api.OK
	}
	return strconv.Itoa(x) + imaginary, api.OK
}

// Parse: the number of a text. ErrNumber.
//
// What is read is held against its own text: so no form is taken that Text doesn't write, whatever Atoi lets pass.
func Parse(s string) (complex128, api.Errno) {
	re, im := halves(s)
	x, noReal := strconv.Atoi(re)
	y, noImaginary := strconv.Atoi(im)
	if noReal != nil || noImaginary != nil {
		return 0, api.ErrNumber
	}
	z, e := Make(x, y)
	if e != api.OK {
		return 0, api.ErrNumber
	}
	if text, _ := Text(z); text != s {
		return 0, api.ErrNumber
	}
	return z, api.OK
}

// The last sign begins the imaginary half, but for one ahead of all, which is the only half's own.
func halves(s string) (string, string) {
	body, ends := strings.CutSuffix(s, "i")
	if !ends {
		return s, "0"
	}
	at := strings.LastIndexAny(body, "+-")
	if at <= 0 {
		return "0", body
	}
	return body[:at], body[at:]
}
