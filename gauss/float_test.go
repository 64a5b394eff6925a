package gauss_test

import (
	"math"
	"math/big"
	"math/rand"
	"slices"
	"testing"

	"annulus/api"
	"annulus/gauss"
)

// odd: floats that are at an edge, or none.
var odd = []float64{
	0, math.Copysign(0, -1), 1, -1, 0.5, 3, -1.5, 0.1, 1 << 53, 1<<53 - 1, -(1<<53 - 1), 1 << 62, 1 << 63, 1 << 64,
	math.MaxFloat64, -math.MaxFloat64, math.SmallestNonzeroFloat64, -math.SmallestNonzeroFloat64, 0x1p-1022, 0x1.fffffffffffffp-1022, 0x0.fffffffffffffp-1022, 3 * math.SmallestNonzeroFloat64,
	0x1p1000, 0x1.fffffffffffffp1000, 0x1p-1000, -0x1.0000000000001p-1000, 0x1p1023,
}

// none: floats that are no point's part.
var none = []float64{math.Inf(1), math.Inf(-1), math.NaN(), math.Float64frombits(0x7ff0000000000001), math.Float64frombits(0xffffffffffffffff)}

// ofFloat: the number that f is.
func ofFloat(f float64) number {
	b := new(big.Float).SetPrec(53).SetFloat64(f)
	e := b.MantExp(b)
	m, _ := b.SetMantExp(b, 53).Int(nil)
	return newNumber(m, e-53)
}

// floatOf: the float nearest to x.
func floatOf(x number) float64 {
	b := new(big.Float).SetInt(x.m)
	f, _ := b.SetMantExp(b, x.e).Float64()
	return f
}

// identical: both are the same float, of 0 the same one too.
func identical(f, g float64) bool { return math.Float64bits(f) == math.Float64bits(g) }

func TestExact(t *testing.T) { // P8.2
	r := rand.New(rand.NewSource(84))
	floats := slices.Clone(odd)
	for range 3000 {
		if f := math.Float64frombits(r.Uint64()); !math.IsNaN(f) && !math.IsInf(f, 0) {
			floats = append(floats, f)
		}
		floats = append(floats, math.Float64frombits(r.Uint64()>>12>>r.Intn(52)), float64(r.Intn(2001)-1000))
	}
	for i, f := range floats {
		g := floats[(i*37+5)%len(floats)]
		got, ok := gauss.Exact(complex(f, g))
		asked(t, ok, true, "Exact", f, g)
		want(t, got, point{ofFloat(f), ofFloat(g)}, "Exact", f, g)
	}
}

func TestExactOfNoPoint(t *testing.T) { // P8.2
	for _, f := range none {
		for _, g := range append(slices.Clone(odd), none...) {
			for _, c := range []complex128{complex(f, g), complex(g, f)} {
				got, ok := gauss.Exact(c)
				if ok || got.Re.M.Mag != nil || got.Im.M.Mag != nil || !alike(got, api.Cplx{}) {
					t.Fatalf("Exact %v: %v, %v", c, got, ok)
				}
			}
		}
	}
}

// justFloat fails unless Float of a is just that.
func justFloat(t *testing.T, a api.Cplx) {
	t.Helper()
	c := gauss.Float(a)
	re, im := floatOf(value(a.Re)), floatOf(value(a.Im))
	if !identical(real(c), re) || !identical(imag(c), im) {
		t.Fatalf("%s: %x and %x, want %x and %x", call("Float", a), real(c), imag(c), re, im)
	}
	back, ok := gauss.Exact(c)
	asked(t, ok, true, "Exact", c)
	want(t, back, meant(a), "Exact", c)
}

// short: numbers of at most 53 bits whose Top lies from -1000 to 1000, and 0.
func short(r *rand.Rand) []number {
	out := []number{whole(0)}
	ms := []int64{1, 3, 5, 1<<31 + 1, 1<<32 - 1, 1<<32 + 1, 1<<33 - 1, 1<<52 + 1, 1<<53 - 1, 1<<53 - 3}
	for range 300 {
		ms = append(ms, r.Int63()>>10>>r.Intn(53)|1)
	}
	for _, m := range ms {
		n := newNumber(big.NewInt(m), 0)
		bits := n.m.BitLen()
		for _, high := range []int{-1000, -999, 999, 1000, 0, 52, 53, 63, 64, r.Intn(2001) - 1000} {
			out = append(out, moved(n, high-bits+1), other(moved(n, high-bits+1)))
		}
	}
	return out
}

func TestFloatOfShort(t *testing.T) { // P8.2
	r := rand.New(rand.NewSource(85))
	all := short(r)
	for i, x := range all {
		y := all[(i*71+3)%len(all)]
		justFloat(t, cplxOf(point{x, y}))
		justFloat(t, cplxOf(point{y, x}))
		justFloat(t, otherPoint(r, cplxOf(point{x, y})))
		for _, w := range ways(dyadOf(x)) {
			justFloat(t, api.Cplx{Re: w, Im: w})
		}
	}
	for _, zero := range ways(api.Dyad{M: api.Int{Neg: true}, E: 2000}) { // never below 0
		justFloat(t, api.Cplx{Re: zero, Im: zero})
		justFloat(t, api.Cplx{Re: small(-1, 0), Im: zero})
	}
}

func TestFloatAndBack(t *testing.T) { // P8.2
	r := rand.New(rand.NewSource(86))
	for range 5000 {
		f, g := (r.Float64()-0.5)*math.Exp2(float64(r.Intn(1900)-950)), float64(r.Intn(201)-100)
		a, ok := gauss.Exact(complex(f, g))
		asked(t, ok, true, "Exact", f, g)
		c := gauss.Float(a)
		asked(t, identical(real(c), f) && identical(imag(c), g), true, "Float", a, f, g, c)
	}
}

// near fails unless f is a number near x: on its side, and no farther off than
// 2 to the power of -50 of it, where floats reach that far.
func near(t *testing.T, f float64, x number, name string, args ...any) {
	t.Helper()
	asked(t, math.IsNaN(f), false, name, args...)
	high := x.m.BitLen() - 1 + x.e
	switch {
	case x.m.Sign() == 0:
		asked(t, f == 0, true, name, args...)
	case high > 1023:
		asked(t, f*float64(x.m.Sign()) >= math.MaxFloat64, true, name, args...)
	case high < -1000:
		asked(t, f*float64(x.m.Sign()) >= 0 && math.Abs(f) <= 0x1p-1000, true, name, args...)
	case high <= 1000:
		off := difference(x, ofFloat(f))
		bits := off.m.BitLen() - 1 + off.e
		asked(t, off.m.Sign() == 0 || bits < high-50, true, name, args...)
	}
}

func TestFloatOfOthers(t *testing.T) { // P8.2
	r := rand.New(rand.NewSource(87))
	try := func(a api.Cplx) {
		c := gauss.Float(a)
		near(t, real(c), value(a.Re), "Float's first part", a)
		near(t, imag(c), value(a.Im), "Float's other part", a)
	}
	singles(try)
	for range 3000 {
		try(somePoint(r, 30, 1100))
		try(otherPoint(r, api.Cplx{Re: small(r.Int63(), r.Intn(2200)-1100), Im: small(-r.Int63()>>r.Intn(10), r.Intn(2200)-1100)}))
	}
	full := newNumber(new(big.Int).Sub(new(big.Int).Lsh(big.NewInt(1), 1024), big.NewInt(1)), 0)
	for n := range 40 { // what is rounded up to the next power of two, the last one that floats don't have too
		try(cplxOf(point{moved(full, -n), other(moved(full, -n))}))
		try(cplxOf(point{moved(full, -n-2*1024), moved(full, n)}))
	}
	long := newNumber(new(big.Int).Lsh(big.NewInt(3), 1000000), -1000000)
	justFloat(t, cplxOf(point{long, other(long)}))
}

// TestFloatBeyond sees that no part is ever no number, nor one of Exact's.
func TestFloatBeyond(t *testing.T) { // P8.2
	for _, e := range []int{1000, 1023, 1024, 1025, -1022, -1074, -1075, -1076, -1100, far, -far, far + 1, 1 << 31, -1 << 31, 1 << 40, math.MaxInt, math.MinInt} {
		for _, m := range mags {
			for _, neg := range []bool{false, true} {
				x := api.Dyad{M: api.Int{Neg: neg, Mag: m}, E: e}
				for _, a := range []api.Cplx{{Re: x}, {Im: x}, {Re: x, Im: small(1, 0)}, {Re: small(-1, 0), Im: x}, {Re: x, Im: x}} {
					c := gauss.Float(a)
					asked(t, math.IsNaN(real(c)) || math.IsNaN(imag(c)), false, "Float", a, c)
					_, ok := gauss.Exact(c)
					asked(t, ok, true, "Exact", c)
				}
			}
		}
	}
}
