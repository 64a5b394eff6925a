package rect_test

import (
	"encoding/binary"
	"fmt"
	"math"
	"math/big"
	"slices"
	"testing"

	"annulus/api"
)

// The tests reckon with math/big and hold rect against it.

const (
	top = math.MaxUint32
	far = 2000000 // beyond it dyad promises nothing of an argument's exponent
)

// number: m times 2 to the power of e; m is odd, or both are 0.
type number struct {
	m *big.Int
	e int
}

// span: the numbers from lo to hi.
type span struct{ lo, hi number }

// point: a point's parts.
type point struct{ re, im number }

// area: a rectangle's parts.
type area struct{ re, im span }

// integer tells a as a number of the library's.
func integer(a api.Int) *big.Int {
	var text []byte
	for _, x := range slices.Backward(a.Mag) {
		text = binary.BigEndian.AppendUint32(text, x)
	}
	n := new(big.Int).SetBytes(text)
	if a.Neg {
		n.Neg(n)
	}
	return n
}

// newNumber tells m times 2 to the power of e so.
func newNumber(m *big.Int, e int) number {
	if m.Sign() == 0 {
		return number{new(big.Int), 0}
	}
	low := m.TrailingZeroBits()
	return number{new(big.Int).Rsh(m, low), e + int(low)}
}

// whole: the number n.
func whole(n int64) number { return newNumber(big.NewInt(n), 0) }

// value: the number that x is.
func value(x api.Dyad) number { return newNumber(integer(x.M), x.E) }

// numbers: those that x is, whichever of its ends is the lesser.
func numbers(x api.Real) span { return around(value(x.Lo), value(x.Hi)) }

// spot: the point that c is.
func spot(c api.Cplx) point { return point{value(c.Re), value(c.Im)} }

// meant: the points that x is, whichever ends are the lesser.
func meant(x api.Rect) area { return area{numbers(x.Re), numbers(x.Im)} }

// alone: the point re, im.
func alone(re, im int64) area {
	return area{span{whole(re), whole(re)}, span{whole(im), whole(im)}}
}

func order(x, y number) int { return difference(x, y).m.Sign() }

func sum(x, y number) number {
	switch { // of 0 the exponent says nothing
	case x.m.Sign() == 0:
		return y
	case y.m.Sign() == 0:
		return x
	}
	e := min(x.e, y.e)
	a, b := new(big.Int).Lsh(x.m, uint(x.e-e)), new(big.Int).Lsh(y.m, uint(y.e-e))
	return newNumber(a.Add(a, b), e)
}

func other(x number) number { return number{new(big.Int).Neg(x.m), x.e} }

func difference(x, y number) number { return sum(x, other(y)) }

func product(x, y number) number { return newNumber(new(big.Int).Mul(x.m, y.m), x.e+y.e) }

func square(x number) number { return product(x, x) }

// moved: x times 2 to the power of n.
func moved(x number, n int) number { return newNumber(x.m, x.e+n) }

// around: the least that has them all.
func around(first number, more ...number) span {
	s := span{first, first}
	for _, x := range more {
		if order(x, s.lo) < 0 {
			s.lo = x
		}
		if order(x, s.hi) > 0 {
			s.hi = x
		}
	}
	return s
}

// has tells whether x is in s.
func (s span) has(x number) bool { return order(s.lo, x) <= 0 && order(x, s.hi) <= 0 }

func (s span) plus(u span) span { return span{sum(s.lo, u.lo), sum(s.hi, u.hi)} }

func (s span) mirrored() span { return span{other(s.hi), other(s.lo)} }

func (s span) less(u span) span { return s.plus(u.mirrored()) }

func (s span) times(u span) span {
	return around(product(s.lo, u.lo), product(s.lo, u.hi), product(s.hi, u.lo), product(s.hi, u.hi))
}

func (s span) squared() span {
	out := around(square(s.lo), square(s.hi))
	if s.has(whole(0)) {
		out.lo = whole(0)
	}
	return out
}

func (s span) moved(n int) span { return span{moved(s.lo, n), moved(s.hi, n)} }

func (a area) has(c point) bool { return a.re.has(c.re) && a.im.has(c.im) }

func (a area) plus(b area) area { return area{a.re.plus(b.re), a.im.plus(b.im)} }

func (a area) less(b area) area { return area{a.re.less(b.re), a.im.less(b.im)} }

func (a area) mirrored() area { return area{a.re.mirrored(), a.im.mirrored()} }

func (a area) times(b area) area {
	return area{a.re.times(b.re).less(a.im.times(b.im)), a.re.times(b.im).plus(a.im.times(b.re))}
}

func (a area) squared() area {
	return area{a.re.squared().less(a.im.squared()), a.re.times(a.im).moved(1)}
}

func (a area) norm() span { return a.re.squared().plus(a.im.squared()) }

func (a area) around(b area) area {
	return area{around(a.re.lo, a.re.hi, b.re.lo, b.re.hi), around(a.im.lo, a.im.hi, b.im.lo, b.im.hi)}
}

// within tells whether all of a is in b.
func (a area) within(b area) bool {
	return b.has(point{a.re.lo, a.im.lo}) && b.has(point{a.re.hi, a.im.hi})
}

func (a point) plus(b point) point { return point{sum(a.re, b.re), sum(a.im, b.im)} }

func (a point) mirrored() point { return point{other(a.re), other(a.im)} }

func (a point) times(b point) point {
	re := difference(product(a.re, b.re), product(a.im, b.im))
	return point{re, sum(product(a.re, b.im), product(a.im, b.re))}
}

func (a point) norm() number { return sum(square(a.re), square(a.im)) }

// dyadOf tells x as a Dyad as it is written.
func dyadOf(x number) api.Dyad {
	mag := make([]uint32, (x.m.BitLen()+31)/32)
	text := x.m.FillBytes(make([]byte, 4*len(mag)))
	for i := range mag {
		mag[len(mag)-1-i] = binary.BigEndian.Uint32(text[4*i:])
	}
	return api.Dyad{M: api.Int{Neg: x.m.Sign() < 0, Mag: mag}, E: x.e}
}

// realOf tells s as a Real as it is written.
func realOf(s span) api.Real { return api.Real{Lo: dyadOf(s.lo), Hi: dyadOf(s.hi)} }

// cplxOf tells a as a Cplx as it is written.
func cplxOf(a point) api.Cplx { return api.Cplx{Re: dyadOf(a.re), Im: dyadOf(a.im)} }

// rectOf tells a as a Rect as it is written.
func rectOf(a area) api.Rect { return api.Rect{Re: realOf(a.re), Im: realOf(a.im)} }

// small: the Dyad m times 2 to the power of e, as it is written.
func small(m int64, e int) api.Dyad { return dyadOf(newNumber(big.NewInt(m), e)) }

// at: the point re, im.
func at(re, im int64) api.Cplx { return api.Cplx{Re: small(re, 0), Im: small(im, 0)} }

// from: the Real from a to b, also if that isn't one.
func from(a, b int64) api.Real { return api.Real{Lo: small(a, 0), Hi: small(b, 0)} }

// from4: the Rect from a to b, c to d, also if that isn't one.
func from4(a, b, c, d int64) api.Rect { return api.Rect{Re: from(a, b), Im: from(c, d)} }

// parted: the Rect from a to b, c to d, times 2 to the power of -parts.
func parted(a, b, c, d int64, parts int) api.Rect {
	w := meant(from4(a, b, c, d))
	return rectOf(area{w.re.moved(-parts), w.im.moved(-parts)})
}

// changed: x with both ends changed.
func changed(x api.Real) api.Real { return api.Real{Lo: x.Hi, Hi: x.Lo} }

// turned: x in all ways with some ends changed.
func turned(x api.Rect) []api.Rect {
	return []api.Rect{x, {Re: changed(x.Re), Im: x.Im}, {Re: x.Re, Im: changed(x.Im)}, {Re: changed(x.Re), Im: changed(x.Im)}}
}

// equal: both are written alike.
func equal(x, y api.Dyad) bool {
	return x.E == y.E && x.M.Neg == y.M.Neg && slices.Equal(x.M.Mag, y.M.Mag)
}

// alikeReal: both have ends that are written alike.
func alikeReal(x, y api.Real) bool { return equal(x.Lo, y.Lo) && equal(x.Hi, y.Hi) }

// alike: both have parts that are written alike.
func alike(x, y api.Rect) bool { return alikeReal(x.Re, y.Re) && alikeReal(x.Im, y.Im) }

// shown: a number, cut short where it is long.
func shown(x api.Dyad) string {
	if len(x.M.Mag) > 50 {
		return fmt.Sprint("{long ", x.M.Neg, " ", len(x.M.Mag), " ", x.M.Mag[len(x.M.Mag)-9:], " ", x.E, "}")
	}
	return fmt.Sprint(x)
}

func shownReal(x api.Real) string { return "from " + shown(x.Lo) + " to " + shown(x.Hi) }

func shownRect(x api.Rect) string { return shownReal(x.Re) + " and " + shownReal(x.Im) }

// call: how such a call is written.
func call(name string, args ...any) string {
	for _, x := range args {
		switch x := x.(type) {
		case api.Rect:
			name += " " + shownRect(x) + ","
		case api.Cplx:
			name += " " + shown(x.Re) + " and " + shown(x.Im) + ","
		default:
			name += fmt.Sprint(" ", x, ",")
		}
	}
	return name
}

// want fails unless got has just the points, its ends as they are written.
func want(t *testing.T, got api.Rect, a area, name string, args ...any) {
	t.Helper()
	if w := rectOf(a); !alike(got, w) {
		t.Fatalf("%s: %s, want %s", call(name, args...), shownRect(got), shownRect(w))
	}
}

// wantReal fails unless got has just the numbers, its ends as they are written.
func wantReal(t *testing.T, got api.Real, s span, name string, args ...any) {
	t.Helper()
	if w := realOf(s); !alikeReal(got, w) {
		t.Fatalf("%s: %s, want %s", call(name, args...), shownReal(got), shownReal(w))
	}
}

// asked fails unless got is what is wanted.
func asked(t *testing.T, got, wanted bool, name string, args ...any) {
	t.Helper()
	if got != wanted {
		t.Fatalf("%s: %v", call(name, args...), got)
	}
}

// errs fails unless there is just that error.
func errs(t *testing.T, e, wanted api.Errno, name string, args ...any) {
	t.Helper()
	if e != wanted {
		t.Fatalf("%s: %v, want %v", call(name, args...), e, wanted)
	}
}
