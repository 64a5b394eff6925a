package balls_test

import (
	"encoding/binary"
	"fmt"
	"math"
	"math/big"
	"slices"
	"testing"

	"annulus/api"
)

// The tests reckon with math/big and hold balls against it.

const (
	top   = math.MaxUint32
	outer = 2000000 // beyond it dyad promises nothing of an argument's exponent
)

// number: m times 2 to the power of e; m is odd, or both are 0.
type number struct {
	m *big.Int
	e int
}

// point: a point's parts.
type point struct{ re, im number }

// round: the points of a disc.
type round struct {
	c point
	r number
}

// integer tells a as a number of the library's.
func integer(a api.Int) *big.Int {
	var text []byte
	for _, x := range slices.Backward(a.Mag) {
		text = binary.BigEndian.AppendUint32(text, x)
	}
	n := new(big.Int).SetBytes(text)
	if a.Neg {
		n.Neg(n)
	}
	return n
}

// newNumber tells m times 2 to the power of e so.
func newNumber(m *big.Int, e int) number {
	if m.Sign() == 0 {
		return number{new(big.Int), 0}
	}
	low := m.TrailingZeroBits()
	return number{new(big.Int).Rsh(m, low), e + int(low)}
}

// whole: the number n.
func whole(n int64) number { return newNumber(big.NewInt(n), 0) }

// value: the number that x is.
func value(x api.Dyad) number { return newNumber(integer(x.M), x.E) }

// spot: the point that c is.
func spot(c api.Cplx) point { return point{value(c.Re), value(c.Im)} }

// meant: the points that d is: an R below 0 counts as 0.
func meant(d api.Disc) round {
	r := value(d.R)
	if r.m.Sign() < 0 {
		r = whole(0)
	}
	return round{spot(d.C), r}
}

// meantAll: each of p so.
func meantAll(p []api.Disc) []round {
	var out []round
	for _, d := range p {
		out = append(out, meant(d))
	}
	return out
}

// trimmed: f's points, without noughts on top.
func trimmed(f []api.Cplx) []point {
	var out []point
	for _, c := range f {
		out = append(out, spot(c))
	}
	for len(out) > 0 && out[len(out)-1].zero() {
		out = out[:len(out)-1]
	}
	return out
}

func order(x, y number) int { return difference(x, y).m.Sign() }

func sum(x, y number) number {
	switch { // of 0 the exponent says nothing
	case x.m.Sign() == 0:
		return y
	case y.m.Sign() == 0:
		return x
	}
	e := min(x.e, y.e)
	a, b := new(big.Int).Lsh(x.m, uint(x.e-e)), new(big.Int).Lsh(y.m, uint(y.e-e))
	return newNumber(a.Add(a, b), e)
}

func other(x number) number { return number{new(big.Int).Neg(x.m), x.e} }

func difference(x, y number) number { return sum(x, other(y)) }

func product(x, y number) number { return newNumber(new(big.Int).Mul(x.m, y.m), x.e+y.e) }

func square(x number) number { return product(x, x) }

func nought() point { return point{whole(0), whole(0)} }

func (a point) zero() bool { return a.re.m.Sign() == 0 && a.im.m.Sign() == 0 }

func (a point) plus(b point) point { return point{sum(a.re, b.re), sum(a.im, b.im)} }

func (a point) less(b point) point { return a.plus(point{other(b.re), other(b.im)}) }

func (a point) times(b point) point {
	re := difference(product(a.re, b.re), product(a.im, b.im))
	return point{re, sum(product(a.re, b.im), product(a.im, b.re))}
}

func (a point) norm() number { return sum(square(a.re), square(a.im)) }

// has tells whether c is in d.
func (d round) has(c point) bool { return order(c.less(d.c).norm(), square(d.r)) <= 0 }

func (d round) plus(b round) round { return round{d.c.plus(b.c), sum(d.r, b.r)} }

// times tells what disc's Mul tells.
func (d round) times(b round, p int) round {
	r := sum(product(distance(d.c, p), b.r), product(distance(b.c, p), d.r))
	return round{d.c.times(b.c), cut(sum(r, product(d.r, b.r)), p)}
}

// held: n, or the one of a and b that it lies beyond.
func held(n, a, b int) int { return min(max(n, a), b) }

// unit: the exponent of the multiples that a number is rounded to, whose
// topmost bit is at t.
func unit(t, p int) int { return held(t-held(p, 1, api.MaxBits)+1, -api.MaxE, api.MaxE) }

// cut: x, which isn't below 0, rounded up to p bits.
func cut(x number, p int) number {
	e := unit(x.m.BitLen()-1+x.e, p)
	if x.e >= e || x.m.Sign() == 0 {
		return x
	}
	m := new(big.Int).Rsh(x.m, uint(e-x.e)) // something is lost, as x.m is odd
	return newNumber(m.Add(m, big.NewInt(1)), e)
}

// rooted: the square root of x, which isn't below 0, rounded up to p bits.
func rooted(x number, p int) number {
	if x.m.Sign() == 0 {
		return x
	}
	e := unit((x.m.BitLen()-1+x.e)>>1, p)
	n := x.e - 2*e
	part := new(big.Int).Lsh(x.m, uint(max(n, 0)))
	part.Rsh(part, uint(max(-n, 0)))
	root := new(big.Int).Sqrt(part)
	if n < 0 || part.Cmp(new(big.Int).Mul(root, root)) > 0 { // as x.m is odd
		root.Add(root, big.NewInt(1))
	}
	return newNumber(root, e)
}

// distance: how far c is from 0, rounded up to p bits.
func distance(c point, p int) number { return rooted(c.norm(), p) }

// dyadOf tells x as a Dyad as it is written.
func dyadOf(x number) api.Dyad {
	mag := make([]uint32, (x.m.BitLen()+31)/32)
	text := x.m.FillBytes(make([]byte, 4*len(mag)))
	for i := range mag {
		mag[len(mag)-1-i] = binary.BigEndian.Uint32(text[4*i:])
	}
	return api.Dyad{M: api.Int{Neg: x.m.Sign() < 0, Mag: mag}, E: x.e}
}

// cplxOf tells a as a Cplx as it is written.
func cplxOf(a point) api.Cplx { return api.Cplx{Re: dyadOf(a.re), Im: dyadOf(a.im)} }

// discOf tells d as a Disc as it is written.
func discOf(d round) api.Disc { return api.Disc{C: cplxOf(d.c), R: dyadOf(d.r)} }

// discsOf tells each of p so.
func discsOf(p []round) []api.Disc {
	var out []api.Disc
	for _, d := range p {
		out = append(out, discOf(d))
	}
	return out
}

// small: the Dyad m times 2 to the power of e, as it is written.
func small(m int64, e int) api.Dyad { return dyadOf(newNumber(big.NewInt(m), e)) }

// at: the point re, im.
func at(re, im int64) api.Cplx { return api.Cplx{Re: small(re, 0), Im: small(im, 0)} }

// disc3: the Disc around re, im with that R, also one below 0.
func disc3(re, im, r int64) api.Disc { return api.Disc{C: at(re, im), R: small(r, 0)} }

// equal: both are written alike.
func equal(x, y api.Dyad) bool {
	return x.E == y.E && x.M.Neg == y.M.Neg && slices.Equal(x.M.Mag, y.M.Mag)
}

// alike: both have middles and R's that are written alike.
func alike(a, b api.Disc) bool {
	return equal(a.C.Re, b.C.Re) && equal(a.C.Im, b.C.Im) && equal(a.R, b.R)
}

func alikeAll(p, q []api.Disc) bool { return slices.EqualFunc(p, q, alike) }

// shown: a number, cut short where it is long.
func shown(x api.Dyad) string {
	if len(x.M.Mag) > 20 {
		return fmt.Sprint("{long ", x.M.Neg, " ", len(x.M.Mag), " ", x.M.Mag[len(x.M.Mag)-9:], " ", x.E, "}")
	}
	return fmt.Sprint(x)
}

func shownCplx(c api.Cplx) string { return shown(c.Re) + " and " + shown(c.Im) }

func shownDisc(d api.Disc) string { return "around " + shownCplx(d.C) + " with " + shown(d.R) }

// shownAll: what f shows of each, cut short where there are many.
func shownAll[T any](list []T, f func(T) string) string {
	text := fmt.Sprint(len(list), " [")
	for i, x := range list {
		if i > 9 {
			return text + " ..]"
		}
		text += " " + f(x) + ";"
	}
	return text + "]"
}

// call: how such a call is written.
func call(name string, args ...any) string {
	for _, x := range args {
		switch x := x.(type) {
		case []api.Disc:
			name += " " + shownAll(x, shownDisc) + ","
		case []api.Cplx:
			name += " " + shownAll(x, shownCplx) + ","
		case api.Disc:
			name += " " + shownDisc(x) + ","
		case api.Cplx:
			name += " " + shownCplx(x) + ","
		default:
			name += fmt.Sprint(" ", x, ",")
		}
	}
	return name
}

// want fails unless got has just the points, as they are written.
func want(t *testing.T, got []api.Disc, p []round, name string, args ...any) {
	t.Helper()
	if w := discsOf(p); !alikeAll(got, w) {
		t.Fatalf("%s: %s, want %s", call(name, args...), shownAll(got, shownDisc), shownAll(w, shownDisc))
	}
}

// wantDisc fails unless got has just the points, as they are written.
func wantDisc(t *testing.T, got api.Disc, d round, name string, args ...any) {
	t.Helper()
	want(t, []api.Disc{got}, []round{d}, name, args...)
}

// wantDyad fails unless got is just the number, as it is written.
func wantDyad(t *testing.T, got api.Dyad, n number, name string, args ...any) {
	t.Helper()
	if w := dyadOf(n); !equal(got, w) {
		t.Fatalf("%s: %s, want %s", call(name, args...), shown(got), shown(w))
	}
}

// asked fails unless got is what is wanted.
func asked(t *testing.T, got, wanted bool, name string, args ...any) {
	t.Helper()
	if got != wanted {
		t.Fatalf("%s: %v", call(name, args...), got)
	}
}
