package poly_test

import (
	"testing"

	"annulus/api"
	"annulus/poly"
)

func TestAtWritten(t *testing.T) { // P11.1
	for _, c := range []struct {
		p       []api.Cplx
		z, want api.Cplx
	}{
		{nil, at(3, 4), at(0, 0)}, {zeros, at(3, 4), at(0, 0)}, {of(7), at(3, 4), at(7, 0)}, {complexOf(7, -8), at(0, 0), at(7, -8)}, {of(1, 2, 3), at(0, 0), at(1, 0)}, {of(1, 2, 3), at(10, 0), at(321, 0)}, {of(1, 2, 3), at(-1, 0), at(2, 0)}, {of(0, 1), at(3, 4), at(3, 4)}, {of(0, 0, 1), at(3, 4), at(-7, 24)}, {of(1, 0, 1), at(0, 1), at(0, 0)}, {of(1, 0, 1), at(0, -1), at(0, 0)}, {of(1, 1, 1, 1), at(0, 1), at(0, 0)}, {complexOf(0, 1, 0, 0, 1, 1), at(1, -2), at(1, -6)}, {append(of(5, 1), zeros...), at(2, 1), at(7, 1)},
		{of(1, 1, 1), api.Cplx{Re: small(1, -1)}, api.Cplx{Re: small(7, -2)}}, {of(1, 0, 0, 0, 16), api.Cplx{Im: small(1, -1)}, at(2, 0)},
	} {
		wantPoint(t, poly.At(c.p, c.z), spot(c.want), "At", c.p, c.z)
	}
}

func TestAt(t *testing.T) { // P11.1
	places(func(p []api.Cplx, z api.Cplx) {
		wantPoint(t, poly.At(p, z), valueAt(meant(p), spot(z)), "At", p, z)
	})
}

func TestShiftWritten(t *testing.T) { // P11.1
	for _, c := range []struct {
		p    []api.Cplx
		c    api.Cplx
		want []api.Cplx
	}{
		{nil, at(1, 0), nil}, {zeros, at(1, 2), nil}, {of(7), at(1, 2), of(7)}, {of(0, 1), at(3, 4), complexOf(3, 4, 1, 0)}, {of(0, 0, 1), at(1, 0), of(1, 2, 1)}, {of(0, 0, 0, 1), at(-1, 0), of(-1, 3, -3, 1)}, {of(1, 2, 3), at(10, 0), of(321, 62, 3)}, {of(1, 2, 3), at(0, 0), of(1, 2, 3)}, {append(of(1, 2, 3), zeros...), zeros[3], of(1, 2, 3)}, {of(-1, 0, 1), at(1, 0), of(0, 2, 1)}, {of(1, 0, 1), at(0, 1), complexOf(0, 0, 0, 2, 1, 0)}, {complexOf(0, 1, 1, -1, 2, 0), at(1, 1), complexOf(2, 5, 5, 3, 2, 0)},
		{of(0, 0, 4), api.Cplx{Re: small(1, -1)}, of(1, 4, 4)},
	} {
		want(t, poly.Shift(c.p, c.c), meant(c.want), "Shift", c.p, c.c)
	}
}

func TestShift(t *testing.T) { // P11.1
	places(func(p []api.Cplx, c api.Cplx) {
		want(t, poly.Shift(p, c), shifted(meant(p), spot(c)), "Shift", p, c)
	})
}

func TestPartWritten(t *testing.T) { // P11.1
	for _, c := range []struct {
		p    []api.Cplx
		r    api.Cplx
		q    []api.Cplx
		left api.Cplx
	}{
		{nil, at(1, 0), nil, at(0, 0)}, {zeros, at(1, 0), nil, at(0, 0)}, {complexOf(7, -8), at(1, 2), nil, at(7, -8)}, {append(of(7), zeros...), at(1, 2), nil, at(7, 0)}, {of(-1, 0, 1), at(1, 0), of(1, 1), at(0, 0)}, {of(-1, 0, 1), at(-1, 0), of(-1, 1), at(0, 0)}, {of(-1, 0, 1), at(2, 0), of(2, 1), at(3, 0)}, {of(1, 2, 3), at(0, 0), of(2, 3), at(1, 0)}, {of(1, 2, 3), at(10, 0), of(32, 3), at(321, 0)}, {of(0, 0, 0, 5), at(0, 0), of(0, 0, 5), at(0, 0)}, {of(1, 0, 1), at(0, 1), complexOf(0, 1, 1, 0), at(0, 0)}, {complexOf(1, 2, 3, 4), at(1, 1), complexOf(3, 4), at(0, 9)}, {append(of(6, 2), zeros...), zeros[1], of(2), at(6, 0)},
		{of(1, 4, 4), api.Cplx{Re: small(-1, -1)}, of(2, 4), at(0, 0)},
	} {
		q, left := poly.Part(c.p, c.r)
		want(t, q, meant(c.q), "Part", c.p, c.r)
		wantPoint(t, left, spot(c.left), "Part", c.p, c.r)
	}
}

func TestPart(t *testing.T) { // P11.1
	places(func(p []api.Cplx, r api.Cplx) {
		q, left := poly.Part(p, r)
		want(t, q, quotient(meant(p), spot(r)), "Part", p, r)
		wantPoint(t, left, valueAt(meant(p), spot(r)), "Part", p, r)
		back := plus(times(meant(q), []point{nought().less(spot(r)), one()}), []point{spot(left)})
		want(t, poly.Trim(p), back, "Part", p, r)
	})
}
