package digits

import (
	"strings"

	"annulus/api"
	"annulus/nat"
)

// Parse tells the number that Text tells as just s, and len(s); else 0, the
// place of the first byte that can't stand there, or of the end, and the error.
func Parse(s string) (api.Int, int, api.Errno) {
	place, e := fault(s)
	if e != api.OK {
		return api.Int{}, place, e
	}
	digits, less := strings.CutPrefix(s, "-")
	return api.Int{Neg: less, Mag: number(digits)}, place, api.OK
}

// fault tells the place and the error of a text that isn't Text's; of another
// one its end and OK.
func fault(s string) (int, api.Errno) {
	first := len(s) - len(strings.TrimPrefix(s, "-"))
	for i := first; i < len(s); i++ {
		if !stands(s, first, i) {
			return i, api.ErrByte
		}
	}
	if first == len(s) {
		return len(s), api.ErrEnd
	}
	return len(s), api.OK
}

// stands: the byte at i can stand there, where the digits begin at first and
// all bytes ahead of it can.
func stands(s string, first, i int) bool {
	switch {
	case s[i] < '0' || s[i] > '9':
		return false
	case i-first >= api.MaxDigits:
		return false
	case i == first:
		return s[i] != '0' || first == 0 // 0 has no minus
	}
	return s[first] != '0'
}

// number tells what decimal digits mean.
func number(digits string) []uint32 {
	var mag []uint32
	for i := range len(digits) {
		mag = nat.Add(nat.Mul(mag, []uint32{10}), []uint32{uint32(digits[i] - '0')})
	}
	return mag
}
