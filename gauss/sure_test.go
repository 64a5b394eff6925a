package gauss_test

import (
	"math"
	"slices"
	"testing"

	"annulus/api"
	"annulus/gauss"
)

// answers: all that the calls answer to a, b, n that are points; Norm as one.
func answers(a, b api.Cplx, n int) []api.Cplx {
	exact, _ := gauss.Exact(complex(float64(n)/8, -float64(n)))
	return []api.Cplx{gauss.Of(int64(n), int64(-n)), gauss.Add(a, b), gauss.Sub(a, b), gauss.Mul(a, b), gauss.Neg(a), gauss.Conj(a), {Re: gauss.Norm(a)},
		gauss.Scale(a, n), gauss.Scale(a, 0), gauss.Times(a, b.Re), gauss.Times(b, a.Re), gauss.Pow(a, 0), gauss.Pow(a, 1), gauss.Pow(a, 2), gauss.Pow(a, 3), exact}
}

// told: what else they answer.
func told(a, b api.Cplx) [3]any {
	return [3]any{gauss.Zero(a), gauss.Same(a, b), gauss.Float(a)}
}

// TestOtherWays sees that the calls answer alike, however numbers are written.
func TestOtherWays(t *testing.T) { // P8.1, P8.2
	i := 0
	pairs(func(a, b api.Cplx) {
		i++
		if i%40 > 0 {
			return
		}
		wantedPoints, wanted := answers(a, b, i%70), told(a, b)
		re, im, from, to := ways(a.Re), ways(a.Im), ways(b.Re), ways(b.Im)
		for j := range re {
			v := api.Cplx{Re: re[j], Im: im[(i+j)%len(im)]}
			w := api.Cplx{Re: from[(i+2*j)%len(from)], Im: to[(i+3*j)%len(to)]}
			for k, got := range answers(v, w, i%70) {
				asked(t, alike(got, wantedPoints[k]), true, "answer", k, v, w)
			}
			asked(t, told(v, w) == wanted, true, "told", v, w)
		}
	})
}

// TestLaws sees that what is added and multiplied comes to the same, whichever
// is done first.
func TestLaws(t *testing.T) { // P8.3
	var last api.Cplx
	i := 0
	pairs(func(a, b api.Cplx) {
		i++
		if i%4 > 0 {
			return
		}
		c := last
		last = b
		for i, s := range [][2]api.Cplx{
			{gauss.Add(a, b), gauss.Add(b, a)},
			{gauss.Mul(a, b), gauss.Mul(b, a)},
			{gauss.Add(gauss.Add(a, b), c), gauss.Add(a, gauss.Add(b, c))},
			{gauss.Mul(gauss.Mul(a, b), c), gauss.Mul(a, gauss.Mul(b, c))},
			{gauss.Mul(gauss.Add(a, b), c), gauss.Add(gauss.Mul(a, c), gauss.Mul(b, c))},
			{gauss.Sub(gauss.Add(a, b), b), gauss.Add(a, api.Cplx{})},
			{gauss.Mul(a, gauss.Conj(a)), gauss.Times(gauss.Of(1, 0), gauss.Norm(a))},
			{gauss.Times(a, b.Re), gauss.Mul(a, api.Cplx{Re: b.Re})},
			{gauss.Pow(gauss.Mul(a, b), 3), gauss.Mul(gauss.Pow(a, 3), gauss.Pow(b, 3))},
		} {
			asked(t, alike(s[0], s[1]) && gauss.Same(s[0], s[1]), true, "law", i, a, b, c)
		}
	})
}

// TestFar has the farthest exponents of which something is promised.
func TestFar(t *testing.T) { // P8.1
	for _, a := range []api.Cplx{{Re: small(-3, far), Im: small(5, far)}, {Re: small(5, -far), Im: small(-3, far)}, {Re: small(-5, far), Im: small(3, -far)}, {Re: small(-3, -far), Im: small(7, -far)}} {
		for _, b := range []api.Cplx{a, at(-7, 5), {Re: small(1, -far), Im: small(9, far)}} {
			v, w := meant(a), meant(b)
			want(t, gauss.Add(a, b), v.plus(w), "Add", a, b)
			want(t, gauss.Sub(a, b), v.less(w), "Sub", a, b)
			want(t, gauss.Mul(a, b), v.times(w), "Mul", a, b)
			want(t, gauss.Times(a, b.Re), v.both(func(x number) number { return product(x, w.re) }), "Times", a, b.Re)
			asked(t, gauss.Same(a, b), v.less(w).norm().m.Sign() == 0, "Same", a, b)
		}
		wantDyad(t, gauss.Norm(a), meant(a).norm(), "Norm", a)
		want(t, gauss.Scale(a, api.MaxE+1), meant(a).both(func(x number) number { return moved(x, api.MaxE) }), "Scale", a)
		powers(t, a, 3)
	}
}

// TestBeyond sees that all calls come back, however far an exponent lies.
func TestBeyond(t *testing.T) { // P8.1, P8.2
	outer := []int{far + 1, -far - 1, 1 << 31, -1 << 31, math.MaxInt, math.MinInt, math.MaxInt - 5}
	for i, e := range outer {
		for _, m := range []int64{0, 1, -5} {
			x := api.Dyad{M: small(m, 0).M, E: e}
			for _, a := range []api.Cplx{{Re: x, Im: x}, {Re: x, Im: small(3, 0)}, {Re: small(-3, 0), Im: x}, {Re: x, Im: api.Dyad{M: small(7, 0).M, E: outer[(i+3)%len(outer)]}}} {
				answers(a, at(2, 3), math.MaxInt)
				answers(at(-2, 3), a, math.MinInt)
				told(a, a)
			}
		}
	}
}

// roomy: a copy of x that has spare room, which is written full.
func roomy(x api.Dyad) api.Dyad {
	mag := append(slices.Clone(x.M.Mag), 77, 78, 79)
	return api.Dyad{M: api.Int{Neg: x.M.Neg, Mag: mag[:len(x.M.Mag)]}, E: x.E}
}

// full: what lies in such copies, their spare room too.
func full(parts ...api.Dyad) []uint32 {
	var out []uint32
	for _, d := range parts {
		out = append(out, d.M.Mag[:len(d.M.Mag)+3]...)
	}
	return out
}

// limbs: the Mags of both parts of each.
func limbs(points []api.Cplx) [][]uint32 {
	var out [][]uint32
	for _, a := range points {
		out = append(out, a.Re.M.Mag, a.Im.M.Mag)
	}
	return out
}

// memory writes over each list that is answered, its spare room too, and sees
// whether an argument or another list, of the same answer too, is touched.
func memory(t *testing.T, a, b api.Cplx, n int) {
	t.Helper()
	a, b = api.Cplx{Re: roomy(a.Re), Im: roomy(a.Im)}, api.Cplx{Re: roomy(b.Re), Im: roomy(b.Im)}
	was := full(a.Re, a.Im, b.Re, b.Im)
	lists := limbs(answers(a, b, n))
	first := len(lists)
	lists = append(lists, limbs(answers(a, b, n))...)
	told(a, b)
	var kept [][]uint32
	for _, l := range lists {
		kept = append(kept, slices.Clone(l))
	}
	for i, l := range lists[:first] {
		l = l[:cap(l)]
		for j := range l {
			l[j] = 4711
		}
		asked(t, slices.Equal(full(a.Re, a.Im, b.Re, b.Im), was), true, "arguments at list", i, a, b, n)
		asked(t, slices.EqualFunc(lists[i+1:], kept[i+1:], slices.Equal), true, "other lists at list", i, a, b, n)
	}
	asked(t, slices.EqualFunc(kept[:first], kept[first:], slices.Equal), true, "a second time", a, b, n)
}

func TestMemory(t *testing.T) { // P8.1, P8.2: with what holds everywhere
	i := 0
	pairs(func(a, b api.Cplx) {
		i++
		memory(t, a, b, i%70)
		if i%5 == 0 {
			memory(t, a, a, i%70)
			memory(t, api.Cplx{Re: a.Re, Im: a.Re}, api.Cplx{Re: a.Re, Im: b.Re}, i%70)
			memory(t, cplxOf(meant(a)), at(1, 0), i%70)
			memory(t, cplxOf(meant(a)), at(0, 0), i%70)
		}
	})
}
