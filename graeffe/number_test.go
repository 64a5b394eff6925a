package graeffe_test

import (
	"encoding/binary"
	"fmt"
	"math"
	"math/big"
	"slices"
	"testing"

	"annulus/api"
)

// The tests reckon with math/big and hold graeffe against it.

const (
	top   = math.MaxUint32
	outer = 2000000 // beyond it dyad promises nothing of an argument's exponent
)

// number: m times 2 to the power of e; m is odd, or both are 0.
type number struct {
	m *big.Int
	e int
}

// point: a point's parts.
type point struct{ re, im number }

// integer tells a as a number of the library's.
func integer(a api.Int) *big.Int {
	var text []byte
	for _, x := range slices.Backward(a.Mag) {
		text = binary.BigEndian.AppendUint32(text, x)
	}
	n := new(big.Int).SetBytes(text)
	if a.Neg {
		n.Neg(n)
	}
	return n
}

// newNumber tells m times 2 to the power of e so.
func newNumber(m *big.Int, e int) number {
	if m.Sign() == 0 {
		return number{new(big.Int), 0}
	}
	low := m.TrailingZeroBits()
	return number{new(big.Int).Rsh(m, low), e + int(low)}
}

// whole: the number n.
func whole(n int64) number { return newNumber(big.NewInt(n), 0) }

// value: the number that x is.
func value(x api.Dyad) number { return newNumber(integer(x.M), x.E) }

// spot: the point that c is.
func spot(c api.Cplx) point { return point{value(c.Re), value(c.Im)} }

func sum(x, y number) number {
	switch { // of 0 the exponent says nothing
	case x.m.Sign() == 0:
		return y
	case y.m.Sign() == 0:
		return x
	}
	e := min(x.e, y.e)
	a, b := new(big.Int).Lsh(x.m, uint(x.e-e)), new(big.Int).Lsh(y.m, uint(y.e-e))
	return newNumber(a.Add(a, b), e)
}

func other(x number) number { return number{new(big.Int).Neg(x.m), x.e} }

func product(x, y number) number { return newNumber(new(big.Int).Mul(x.m, y.m), x.e+y.e) }

func (a point) zero() bool { return a.re.m.Sign() == 0 && a.im.m.Sign() == 0 }

func (a point) plus(b point) point { return point{sum(a.re, b.re), sum(a.im, b.im)} }

func (a point) less(b point) point { return a.plus(point{other(b.re), other(b.im)}) }

func (a point) times(b point) point {
	re := sum(product(a.re, b.re), other(product(a.im, b.im)))
	return point{re, sum(product(a.re, b.im), product(a.im, b.re))}
}

// dyadOf tells x as a Dyad as it is written.
func dyadOf(x number) api.Dyad {
	mag := make([]uint32, (x.m.BitLen()+31)/32)
	text := x.m.FillBytes(make([]byte, 4*len(mag)))
	for i := range mag {
		mag[len(mag)-1-i] = binary.BigEndian.Uint32(text[4*i:])
	}
	return api.Dyad{M: api.Int{Neg: x.m.Sign() < 0, Mag: mag}, E: x.e}
}

// cplxOf tells a as a Cplx as it is written.
func cplxOf(a point) api.Cplx { return api.Cplx{Re: dyadOf(a.re), Im: dyadOf(a.im)} }

// small: the Dyad m times 2 to the power of e, as it is written.
func small(m int64, e int) api.Dyad { return dyadOf(newNumber(big.NewInt(m), e)) }

// at: the point re, im.
func at(re, im int64) api.Cplx { return api.Cplx{Re: small(re, 0), Im: small(im, 0)} }

// equal: both are written alike.
func equal(x, y api.Dyad) bool {
	return x.E == y.E && x.M.Neg == y.M.Neg && slices.Equal(x.M.Mag, y.M.Mag)
}

// alike: both have parts that are written alike.
func alike(a, b api.Cplx) bool { return equal(a.Re, b.Re) && equal(a.Im, b.Im) }

func alikePoly(p, q []api.Cplx) bool { return slices.EqualFunc(p, q, alike) }

// shown: a number, cut short where it is long.
func shown(x api.Dyad) string {
	if len(x.M.Mag) > 20 {
		return fmt.Sprint("{long ", x.M.Neg, " ", len(x.M.Mag), " ", x.M.Mag[len(x.M.Mag)-9:], " ", x.E, "}")
	}
	return fmt.Sprint(x)
}

// shownPoints: points, cut short where there are many.
func shownPoints(list []api.Cplx) string {
	text := fmt.Sprint(len(list), " [")
	for i, c := range list {
		if i > 9 {
			return text + " ..]"
		}
		text += " " + shown(c.Re) + "+" + shown(c.Im) + "i"
	}
	return text + "]"
}

// call: how such a call is written.
func call(name string, args ...any) string {
	for _, x := range args {
		if p, ok := x.([]api.Cplx); ok {
			x = shownPoints(p)
		}
		name += fmt.Sprint(" ", x, ",")
	}
	return name
}

// want fails unless got is just the polynomial, as it is written.
func want(t *testing.T, got []api.Cplx, p []point, name string, args ...any) {
	t.Helper()
	if w := coefficients(p); !alikePoly(got, w) {
		t.Fatalf("%s: %s, want %s", call(name, args...), shownPoints(got), shownPoints(w))
	}
}

// asked fails unless got is what is wanted.
func asked(t *testing.T, got, wanted bool, name string, args ...any) {
	t.Helper()
	if got != wanted {
		t.Fatalf("%s: %v", call(name, args...), got)
	}
}
