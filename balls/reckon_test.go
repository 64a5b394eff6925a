package balls_test

import (
	"math"
	"testing"

	"annulus/api"
	"annulus/balls"
)

// valueAt: what At is to tell: its middle by powers, its R from the top one on.
func valueAt(p []round, x round, bits int) round {
	middle, power := nought(), spot(at(1, 0))
	for _, d := range p {
		middle = middle.plus(d.c.times(power))
		power = power.times(x.c)
	}
	from := round{nought(), whole(0)}
	for i := range p {
		from = from.times(x, bits).plus(p[len(p)-1-i])
	}
	return round{middle, from.r}
}

// both: p and q place by place; of those that only one has, just that.
func both(p, q []round) []round {
	if len(p) < len(q) {
		p, q = q, p
	}
	var out []round
	for i, d := range p {
		if i < len(q) {
			d = d.plus(q[i])
		}
		out = append(out, d)
	}
	return out
}

// slope: the derivative, its i-th i times after one another.
func slope(p []round) []round {
	var out []round
	for i := 1; i < len(p); i++ {
		d := p[i]
		for range i - 1 {
			d = d.plus(p[i])
		}
		out = append(out, d)
	}
	return out
}

func TestAtWritten(t *testing.T) { // P12.1: with the chapter's example
	for _, c := range []struct {
		p    []api.Disc
		x    api.Disc
		bits int
		want api.Disc
	}{
		{nil, disc3(3, 4, 5), 9, api.Disc{}}, {nothing, disc3(3, 4, 5), 9, api.Disc{}},
		// 1 at anything: 1.
		{ballsOf(1, 0, 0), api.Disc{}, 9, disc3(1, 0, 0)}, {ballsOf(1, 0, 0), disc3(3, 4, 5), 1, disc3(1, 0, 0)}, {append(ballsOf(1, 0, 0), nothing...), disc3(3, 4, 5), 0, disc3(1, 0, 0)}, {ballsOf(1, 0, 0), api.Disc{C: api.Cplx{Re: small(3, outer)}, R: small(1, outer)}, 1, disc3(1, 0, 0)},
		// The constant one isn't rounded.
		{ballsOf(1, 2, 11), disc3(3, 4, 5), 1, disc3(1, 2, 11)}, {ballsOf(1, 2, -11), disc3(3, 4, 5), 1, disc3(1, 2, 0)},
		// Points.
		{ballsOf(1, 0, 0, 2, 0, 0, 3, 0, 0), disc3(10, 0, 0), 1, disc3(321, 0, 0)}, {ballsOf(1, 0, 0, 0, 0, 0, 1, 0, 0), disc3(0, 1, 0), 1, api.Disc{}}, {ballsOf(0, 1, 0, 0, 0, 0, 1, 1, 0), disc3(1, -2, 0), 1, disc3(1, -6, 0)}, {ballsOf(1, 0, -5, 1, 0, -3), disc3(2, 0, -1), 9, disc3(3, 0, 0)},
		// A point at a disc, a disc at a point.
		{ballsOf(1, 0, 1, 2, 0, 0), disc3(3, 4, 1), 9, disc3(7, 8, 3)}, {ballsOf(1, 0, 1, 2, 0, 1), disc3(3, 4, 0), 9, disc3(7, 8, 6)}, {ballsOf(1, 0, 1, 2, 0, 1), disc3(3, 4, 0), 2, disc3(7, 8, 7)}, {ballsOf(1, 0, 1, 2, 0, 1), disc3(3, 4, -7), 1, disc3(7, 8, 9)},
		// Around 0: 9 is rounded, what is added isn't.
		{ballsOf(0, 0, 1, 0, 0, 3), disc3(0, 0, 3), 4, disc3(0, 0, 10)}, {ballsOf(0, 0, 1, 0, 0, 3), disc3(0, 0, 3), 3, disc3(0, 0, 11)}, {ballsOf(0, 0, 1, 0, 0, 3), disc3(0, 0, 3), 2, disc3(0, 0, 13)}, {ballsOf(0, 0, 1, 0, 0, 3), disc3(0, 0, 3), 1, disc3(0, 0, 17)}, {ballsOf(0, 0, 1, 0, 0, 3), disc3(0, 0, 3), math.MinInt, disc3(0, 0, 17)},
		// At each step: 10 and 1, then 33 to 40, and 1.
		{ballsOf(0, 0, 1, 0, 0, 1, 0, 0, 3), disc3(0, 0, 3), 3, disc3(0, 0, 41)}, {ballsOf(0, 0, 1, 0, 0, 1, 0, 0, 3), disc3(0, 0, 3), math.MaxInt, disc3(0, 0, 31)},
		// The middle tells how far it lies only where it has got: 5 times 2, 13
		// times 1, 2 times 1.
		{ballsOf(1, 2, 1, 3, 4, 1), disc3(5, 12, 2), 9, disc3(-32, 58, 26)}, {ballsOf(1, 2, 1, 3, 4, 1), disc3(5, 12, 2), 4, disc3(-32, 58, 27)}, {ballsOf(1, 2, 1, 3, 4, 1), disc3(5, 12, 2), 3, disc3(-32, 58, 29)}, {ballsOf(1, 2, 1, 3, 4, 1), disc3(5, 12, 2), 1, disc3(-32, 58, 65)},
		// 1, then 3, 4 with R 1; 5 times 1, 5 times 1 and 1.
		{ballsOf(0, 0, 0, 0, 0, 0, 1, 0, 0), disc3(3, 4, 1), 9, disc3(-7, 24, 11)}, {ballsOf(7, -24, 1, -3, -4, 0, 1, 0, 0), disc3(3, 4, 1), 9, disc3(7, -24, 7)},
	} {
		wantDisc(t, balls.At(c.p, c.x, c.bits), meant(c.want), "At", c.p, c.x, c.bits)
	}
}

func TestAt(t *testing.T) { // P12.1
	places(func(p []api.Disc, x api.Disc, bits int) {
		wantDisc(t, balls.At(p, x, bits), valueAt(meantAll(p), meant(x), bits), "At", p, x, bits)
	})
}

func TestAddWritten(t *testing.T) { // P12.1
	for _, c := range []struct{ p, q, want []api.Disc }{
		{nil, nil, nil}, {nil, ballsOf(1, 2, 3), ballsOf(1, 2, 3)}, {ballsOf(1, 2, 3), ballsOf(10, -30, 5), ballsOf(11, -28, 8)},
		{ballsOf(1, 2, 3, 4, 5, 6), ballsOf(1, 1, 1), ballsOf(2, 3, 4, 4, 5, 6)}, {ballsOf(1, 2, 3), ballsOf(1, 1, 1, 0, 0, 0, 7, 8, 9), ballsOf(2, 3, 4, 0, 0, 0, 7, 8, 9)},
		// Each place is told, also where there is but 0.
		{ballsOf(1, 2, 0, 3, 4, 0), ballsOf(1, 1, 0, -3, -4, 0), ballsOf(2, 3, 0, 0, 0, 0)}, {nothing, nil, ballsOf(0, 0, 0, 0, 0, 0, 0, 0, 0, 0, 0, 0)},
		// Nothing known is taken off: the R's of what is opposite are added.
		{ballsOf(1, 2, 3), ballsOf(-1, -2, 3), ballsOf(0, 0, 6)},
		// Below 0 counts as 0.
		{ballsOf(1, 2, -3, 1, 1, -5), ballsOf(1, 1, 5), ballsOf(2, 3, 5, 1, 1, 0)},
	} {
		want(t, balls.Add(c.p, c.q), meantAll(c.want), "Add", c.p, c.q)
		want(t, balls.Add(c.q, c.p), meantAll(c.want), "Add", c.q, c.p)
	}
}

func TestAdd(t *testing.T) { // P12.1
	pairs(func(p, q []api.Disc) {
		want(t, balls.Add(p, q), both(meantAll(p), meantAll(q)), "Add", p, q)
	})
}

func TestDerivWritten(t *testing.T) { // P12.1
	for _, c := range []struct{ p, want []api.Disc }{
		{nil, nil}, {ballsOf(1, 2, 3), nil}, {ballsOf(7, 7, 7, 1, 2, 3), ballsOf(1, 2, 3)}, {ballsOf(7, 7, 7, 1, 2, 3, 4, -5, 6), ballsOf(1, 2, 3, 8, -10, 12)}, {ballsOf(7, 7, 7, 0, 0, 0, 0, 0, 1, 1, 0, 0), ballsOf(0, 0, 0, 0, 0, 2, 3, 0, 0)}, {ballsOf(7, 7, 7, 1, 2, -3, 4, -5, -6), ballsOf(1, 2, 0, 8, -10, 0)}, {nothing, ballsOf(0, 0, 0, 0, 0, 0, 0, 0, 0)}, {ballsOf(1, 1, 1, 1, 1, 1, 0, 0, 0), ballsOf(1, 1, 1, 0, 0, 0)},
	} {
		want(t, balls.Deriv(c.p), meantAll(c.want), "Deriv", c.p)
	}
}

func TestDeriv(t *testing.T) { // P12.1
	singles(func(p []api.Disc) {
		want(t, balls.Deriv(p), slope(meantAll(p)), "Deriv", p)
	})
}
