package balls_test

import (
	"math/rand"
	"testing"

	"annulus/api"
	"annulus/balls"
)

func TestHasWritten(t *testing.T) { // P12.1
	for _, c := range []struct {
		p   []api.Disc
		f   []api.Cplx
		has bool
	}{
		{nil, nil, true}, {nil, zeros, true}, {nil, of(1), false}, {nil, of(0, 0, 1), false},
		// No coefficient counts as 0.
		{ballsOf(0, 0, 0), nil, true}, {ballsOf(5, 0, 5), nil, true}, {ballsOf(5, 0, 4), nil, false}, {ballsOf(1, 0, 1, 3, 4, 5), of(2), true}, {ballsOf(1, 0, 1, 3, 4, 4), of(2), false}, {ballsOf(1, 0, 1, 3, 4, 5, 1, 0, 0), of(2), false}, {nothing, nil, true}, {nothing, of(0, 0, 1), false},
		// More coefficients than discs; noughts on top are none.
		{ballsOf(1, 0, 1), of(1), true}, {ballsOf(1, 0, 1), of(1, 1), false}, {ballsOf(1, 0, 1), append(of(1), zeros...), true}, {ballsOf(1, 0, 1), append(of(3), zeros...), false}, {ballsOf(0, 0, 9, 0, 0, 9), of(1, 0, 0, 1), false}, {ballsOf(0, 0, 9, 0, 0, 9), of(1, 2, 0, 0), true},
		// Within, on the border, beyond it, at each place.
		{ballsOf(1, 2, 5, 3, -4, 0), []api.Cplx{at(4, 6), at(3, -4)}, true}, {ballsOf(1, 2, 5, 3, -4, 0), []api.Cplx{at(5, 6), at(3, -4)}, false}, {ballsOf(1, 2, 5, 3, -4, 0), []api.Cplx{at(-2, -2), at(3, -3)}, false}, {ballsOf(1, 2, 5, 3, -4, 0), []api.Cplx{at(3, -4), at(1, 2)}, false}, {ballsOf(1, 2, 5, 0, 0, 1, 3, -4, 0), []api.Cplx{at(1, 2), at(0, 2), at(3, -4)}, false}, {ballsOf(1, 2, 5, 0, 0, 1, 3, -4, 0), []api.Cplx{at(1, 2), at(0, -1), at(3, -4)}, true},
		// Below 0 counts as 0.
		{ballsOf(1, 2, -5), []api.Cplx{at(1, 2)}, true}, {ballsOf(1, 2, -5), []api.Cplx{at(1, 3)}, false}, {ballsOf(0, 0, -5), nil, true},
	} {
		asked(t, balls.Has(c.p, c.f), c.has, "Has", c.p, c.f)
	}
}

// TestHas has points of all discs, then one that is of none, then fewer.
func TestHas(t *testing.T) { // P12.1
	r := rand.New(rand.NewSource(124))
	singles(func(d []api.Disc) {
		p := meantAll(d)
		within := members(r, p)
		f := otherPoly(r, within)
		asked(t, balls.Has(d, f), true, "Has", d, f)
		f = append(f, at(0, 1))
		asked(t, balls.Has(d, f), false, "Has", d, f)
		for i := range p {
			f = otherPoly(r, within)
			f[i] = otherPoint(r, stranger(r, p[i]))
			asked(t, balls.Has(d, f), false, "Has", d, f)
		}
		short, rest := len(p)/2, true
		for _, d := range p[short:] {
			rest = rest && d.has(nought())
		}
		f = otherPoly(r, within[:short])
		asked(t, balls.Has(d, f), rest, "Has", d, f)
	})
}

func TestOf(t *testing.T) { // P12.1
	want(t, balls.Of(nil), nil, "Of", 0)
	want(t, balls.Of(zeros), nil, "Of", zeros)
	want(t, balls.Of(of(7)), meantAll(ballsOf(7, 0, 0)), "Of", 7)
	want(t, balls.Of(append(of(0, 0, 5), zeros...)), meantAll(ballsOf(0, 0, 0, 0, 0, 0, 5, 0, 0)), "Of", 0, 0, 5)
	want(t, balls.Of([]api.Cplx{at(1, -2), at(0, 0), at(0, 3), at(0, 0)}), meantAll(ballsOf(1, -2, 0, 0, 0, 0, 0, 3, 0)), "Of", "1 - 2i, 0, 3i")
	r := rand.New(rand.NewSource(125))
	singles(func(d []api.Disc) {
		f := otherPoly(r, members(r, meantAll(d)))
		var alone []round
		for _, c := range trimmed(f) {
			alone = append(alone, round{c, whole(0)})
		}
		got := balls.Of(f)
		want(t, got, alone, "Of", f)
		asked(t, balls.Has(got, f), true, "Has of Of", f)
	})
}

func TestZero(t *testing.T) { // P12.1
	for _, c := range []struct {
		p    []api.Disc
		zero bool
	}{
		{nil, true}, {nothing, true}, {ballsOf(3, 4, 5), true}, {ballsOf(3, 4, 4), false}, {ballsOf(0, 0, 0), true}, {ballsOf(0, 0, -1), true}, {ballsOf(0, 1, -1), false}, {ballsOf(0, 0, 1, 1, 0, 1, -3, -4, 5), true}, {ballsOf(0, 0, 1, 1, 0, 0, -3, -4, 5), false}, {ballsOf(1, 0, 0, 0, 0, 1), false}, {ballsOf(0, 0, 1, 0, 1, 0), false},
	} {
		asked(t, balls.Zero(c.p), c.zero, "Zero", c.p)
	}
	zero, all := 0, 0
	singles(func(p []api.Disc) {
		wanted := true
		for _, d := range meantAll(p) {
			wanted = wanted && d.has(nought())
		}
		asked(t, balls.Zero(p), wanted, "Zero", p)
		all++
		if wanted {
			zero++
		}
	})
	asked(t, zero > all/10 && zero < all-all/10, true, "Zero: of both kinds", zero, all)
}

func TestWide(t *testing.T) { // P12.1
	for _, c := range []struct {
		p    []api.Disc
		wide int64
	}{
		{nil, 0}, {nothing, 0}, {ballsOf(9, 9, 0), 0}, {ballsOf(9, 9, 7), 7}, {ballsOf(9, 9, -7), 0}, {ballsOf(9, 9, -7, 1, 1, -3), 0}, {ballsOf(1, 0, 2, 1, 0, 5, 1, 0, 3), 5}, {ballsOf(1, 0, 8, 1, 0, 5, 1, 0, 3), 8}, {ballsOf(1, 0, 2, 1, 0, 5, 1, 0, 12), 12}, {ballsOf(1, 0, -20, 1, 0, 4), 4},
	} {
		wantDyad(t, balls.Wide(c.p), whole(c.wide), "Wide", c.p)
	}
	singles(func(p []api.Disc) {
		widest := whole(0)
		for _, d := range meantAll(p) {
			if order(d.r, widest) > 0 {
				widest = d.r
			}
		}
		wantDyad(t, balls.Wide(p), widest, "Wide", p)
	})
}
