package poly_test

import (
	"math/rand"
	"testing"

	"annulus/api"
	"annulus/poly"
)

func TestTrim(t *testing.T) { // P11.1
	for _, c := range []struct{ p, want []api.Cplx }{
		{nil, nil}, {of(), nil}, {of(0), nil}, {of(0, 0, 0), nil}, {zeros, nil}, {of(1), of(1)}, {of(1, 0), of(1)}, {of(0, 1), of(0, 1)}, {of(0, 2, 0, 0), of(0, 2)}, {complexOf(1, 2, 0, 3, 0, 0), complexOf(1, 2, 0, 3)}, {complexOf(0, 0, 3, 0, 0, -1), complexOf(0, 0, 3, 0, 0, -1)},
		// Noughts within are told, as they are written.
		{append(append([]api.Cplx(nil), zeros...), at(5, 0)), of(0, 0, 0, 0, 5)},
		{[]api.Cplx{{Re: api.Dyad{M: api.Int{Mag: []uint32{12, 0}}, E: -3}, Im: api.Dyad{M: api.Int{Neg: true, Mag: []uint32{0, 1}}, E: 5}}}, []api.Cplx{{Re: small(3, -1), Im: small(-1, 37)}}},
	} {
		want(t, poly.Trim(c.p), meant(c.want), "Trim", c.p)
	}
	singles(func(p []api.Cplx) {
		got := poly.Trim(p)
		want(t, got, meant(p), "Trim", p)
		want(t, poly.Trim(got), meant(p), "Trim", got)
	})
}

func TestDegree(t *testing.T) { // P11.1
	for _, c := range []struct {
		p      []api.Cplx
		degree int
	}{
		{nil, -1}, {of(), -1}, {of(0), -1}, {of(0, 0, 0), -1}, {zeros, -1}, {of(7), 0}, {of(7, 0), 0}, {of(0, 1), 1}, {complexOf(0, 0, 0, 1), 1}, {of(1, 2, 3, 0, 0), 2}, {complexOf(1, 0, 0, 0, 0, -1), 2}, {append(of(1, 2), zeros...), 1}, {append(append([]api.Cplx(nil), zeros...), at(0, 1)), 4},
		{[]api.Cplx{{}, {Re: small(1, -outer)}}, 1}, {[]api.Cplx{{}, {Im: small(-1, -outer)}, {}}, 1},
	} {
		asked(t, poly.Degree(c.p) == c.degree, true, "Degree", c.p, poly.Degree(c.p))
	}
	singles(func(p []api.Cplx) {
		asked(t, poly.Degree(p) == len(meant(p))-1, true, "Degree", p, poly.Degree(p))
	})
	long := make([]api.Cplx, 100000)
	asked(t, poly.Degree(long) == -1, true, "Degree of noughts")
	long[77777] = at(0, -1)
	asked(t, poly.Degree(long) == 77777, true, "Degree of a long one")
}

func TestSameWritten(t *testing.T) { // P11.1
	p := complexOf(1, 2, 0, 0, 3, -4)
	for _, c := range []struct {
		q    []api.Cplx
		same bool
	}{
		{p, true}, {append(complexOf(1, 2, 0, 0, 3, -4), zeros...), true}, {append([]api.Cplx{{Re: small(1, 0), Im: api.Dyad{M: api.Int{Mag: []uint32{8, 0}}, E: -2}}, zeros[2]}, at(3, -4)), true},
		{complexOf(1, 2, 0, 0, 3, 4), false}, {complexOf(1, 2, 0, 0, -3, -4), false}, {complexOf(1, 2, 0, 1, 3, -4), false}, {complexOf(1, 2, 1, 0, 3, -4), false}, {complexOf(1, 3, 0, 0, 3, -4), false}, {complexOf(2, 2, 0, 0, 3, -4), false},
		{complexOf(1, 2, 0, 0), false}, {complexOf(1, 2), false}, {nil, false}, {complexOf(0, 0, 0, 0, 3, -4), false}, {complexOf(0, 0, 1, 2, 0, 0, 3, -4), false}, {complexOf(1, 2, 0, 0, 3, -4, 0, 1), false}, {complexOf(1, 2, 0, 0, 3, -4, 0, 0, 1, 0), false}, {complexOf(3, -4, 0, 0, 1, 2), false},
	} {
		asked(t, poly.Same(p, c.q), c.same, "Same", p, c.q)
		asked(t, poly.Same(c.q, p), c.same, "Same", c.q, p)
	}
	for _, p := range [][]api.Cplx{nil, {}, of(0), zeros} {
		for _, q := range [][]api.Cplx{nil, {}, of(0, 0), zeros} {
			asked(t, poly.Same(p, q), true, "Same", p, q)
		}
		asked(t, poly.Same(p, of(0, 1)) || poly.Same(of(1), p), false, "Same", p)
	}
}

func TestSame(t *testing.T) { // P11.1
	r := rand.New(rand.NewSource(114))
	both := [2]int{}
	pairs(func(p, q []api.Cplx) {
		same := len(plus(meant(p), opposite(meant(q)))) == 0
		asked(t, poly.Same(p, q), same, "Same", p, q)
		way := otherPoly(r, meant(p))
		asked(t, poly.Same(p, way) && poly.Same(way, p), true, "Same", p, way)
		if same {
			both[1]++
		} else {
			both[0]++
		}
	})
	asked(t, both[0] > 300 && both[1] > 300, true, "Same: of both kinds", both)
}
