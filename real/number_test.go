package real_test

import (
	"encoding/binary"
	"fmt"
	"math"
	"math/big"
	"slices"
	"testing"

	"annulus/api"
)

// The tests reckon with math/big and hold real against it.

const (
	top = math.MaxUint32
	far = 2000000 // beyond it dyad promises nothing of an argument's exponent
)

// number: m times 2 to the power of e; m is odd, or both are 0.
type number struct {
	m *big.Int
	e int
}

// span: the numbers from lo to hi.
type span struct{ lo, hi number }

// integer tells a as a number of the library's.
func integer(a api.Int) *big.Int {
	var text []byte
	for _, x := range slices.Backward(a.Mag) {
		text = binary.BigEndian.AppendUint32(text, x)
	}
	n := new(big.Int).SetBytes(text)
	if a.Neg {
		n.Neg(n)
	}
	return n
}

// newNumber tells m times 2 to the power of e so.
func newNumber(m *big.Int, e int) number {
	if m.Sign() == 0 {
		return number{new(big.Int), 0}
	}
	low := m.TrailingZeroBits()
	return number{new(big.Int).Rsh(m, low), e + int(low)}
}

// whole: the number n.
func whole(n int64) number { return newNumber(big.NewInt(n), 0) }

// value: the number that x is.
func value(x api.Dyad) number { return newNumber(integer(x.M), x.E) }

// meant: the numbers that x is, whichever of its ends is the lesser.
func meant(x api.Real) span { return around(value(x.Lo), value(x.Hi)) }

// aligned: what x and y are times 2 to the power of one exponent, and that.
func aligned(x, y number) (*big.Int, *big.Int, int) {
	switch { // of 0 the exponent says nothing
	case x.m.Sign() == 0:
		return new(big.Int), y.m, y.e
	case y.m.Sign() == 0:
		return x.m, new(big.Int), x.e
	}
	e := min(x.e, y.e)
	return new(big.Int).Lsh(x.m, uint(x.e-e)), new(big.Int).Lsh(y.m, uint(y.e-e)), e
}

func order(x, y number) int {
	a, b, _ := aligned(x, y)
	return a.Cmp(b)
}

func sum(x, y number) number {
	a, b, e := aligned(x, y)
	return newNumber(new(big.Int).Add(a, b), e)
}

func other(x number) number { return number{new(big.Int).Neg(x.m), x.e} }

func difference(x, y number) number { return sum(x, other(y)) }

func product(x, y number) number { return newNumber(new(big.Int).Mul(x.m, y.m), x.e+y.e) }

func away(x number) number { return number{new(big.Int).Abs(x.m), x.e} }

func square(x number) number { return product(x, x) }

// power tells the n-th power, for n not below 0.
func power(n int) func(x number) number {
	return func(x number) number {
		return newNumber(new(big.Int).Exp(x.m, big.NewInt(int64(n)), nil), n*x.e)
	}
}

// around: the least that has them all.
func around(first number, more ...number) span {
	s := span{first, first}
	for _, x := range more {
		if order(x, s.lo) < 0 {
			s.lo = x
		}
		if order(x, s.hi) > 0 {
			s.hi = x
		}
	}
	return s
}

// has tells whether x is in s.
func (s span) has(x number) bool { return order(s.lo, x) <= 0 && order(x, s.hi) <= 0 }

// under: the least that has f of each number in s; f falls and rises only from 0
// on and up to it.
func under(f func(x number) number, s span) span {
	out := around(f(s.lo), f(s.hi))
	if s.has(whole(0)) {
		out = around(out.lo, out.hi, f(whole(0)))
	}
	return out
}

// among: the least that has f of each number in s and each in u; f falls or rises
// all the way where one of both stands.
func among(f func(x, y number) number, s, u span) span {
	return around(f(s.lo, u.lo), f(s.lo, u.hi), f(s.hi, u.lo), f(s.hi, u.hi))
}

// dyadOf tells x as a Dyad as it is written.
func dyadOf(x number) api.Dyad {
	mag := make([]uint32, (x.m.BitLen()+31)/32)
	text := x.m.FillBytes(make([]byte, 4*len(mag)))
	for i := range mag {
		mag[len(mag)-1-i] = binary.BigEndian.Uint32(text[4*i:])
	}
	return api.Dyad{M: api.Int{Neg: x.m.Sign() < 0, Mag: mag}, E: x.e}
}

// realOf tells s as a Real as it is written.
func realOf(s span) api.Real { return api.Real{Lo: dyadOf(s.lo), Hi: dyadOf(s.hi)} }

// small: the Dyad m times 2 to the power of e, as it is written.
func small(m int64, e int) api.Dyad { return dyadOf(newNumber(big.NewInt(m), e)) }

// from: the Real from a to b, also if that isn't one.
func from(a, b int64) api.Real { return api.Real{Lo: small(a, 0), Hi: small(b, 0)} }

// changed: x with both ends changed.
func changed(x api.Real) api.Real { return api.Real{Lo: x.Hi, Hi: x.Lo} }

// equal: both are written alike.
func equal(x, y api.Dyad) bool {
	return x.E == y.E && x.M.Neg == y.M.Neg && slices.Equal(x.M.Mag, y.M.Mag)
}

// alike: both have ends that are written alike.
func alike(x, y api.Real) bool { return equal(x.Lo, y.Lo) && equal(x.Hi, y.Hi) }

// shown: a number, cut short where it is long.
func shown(x api.Dyad) string {
	if len(x.M.Mag) > 50 {
		return fmt.Sprint("{long ", x.M.Neg, " ", len(x.M.Mag), " ", x.M.Mag[len(x.M.Mag)-9:], " ", x.E, "}")
	}
	return fmt.Sprint(x)
}

// call: how such a call is written.
func call(name string, args ...any) string {
	for _, x := range args {
		switch x := x.(type) {
		case api.Real:
			name += " from " + shown(x.Lo) + " to " + shown(x.Hi) + ","
		default:
			name += fmt.Sprint(" ", x, ",")
		}
	}
	return name
}

// want fails unless got has just the numbers, its ends as they are written.
func want(t *testing.T, got api.Real, s span, name string, args ...any) {
	t.Helper()
	if !alike(got, realOf(s)) {
		t.Fatalf("%s: from %s to %s, want from %s to %s", call(name, args...), shown(got.Lo), shown(got.Hi), shown(dyadOf(s.lo)), shown(dyadOf(s.hi)))
	}
}

// asked fails unless got is what is wanted.
func asked(t *testing.T, got, wanted bool, name string, args ...any) {
	t.Helper()
	if got != wanted {
		t.Fatalf("%s: %v", call(name, args...), got)
	}
}

// refused fails unless there is just that error, beside 0 to 0.
func refused(t *testing.T, got api.Real, e, wanted api.Errno, name string, args ...any) {
	t.Helper()
	if e != wanted || !alike(got, api.Real{}) {
		t.Fatalf("%s: from %s to %s, %v, want %v", call(name, args...), shown(got.Lo), shown(got.Hi), e, wanted)
	}
}
