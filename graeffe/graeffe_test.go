package graeffe_test

import (
	"math"
	"math/rand"
	"testing"

	"annulus/api"
	"annulus/graeffe"
)

func TestSplitWritten(t *testing.T) { // P13.1
	for _, c := range []struct{ p, even, odd []api.Cplx }{
		{nil, nil, nil}, {of(), nil, nil}, {of(0), nil, nil}, {of(0, 0), nil, nil}, {zeros, nil, nil}, {of(7), of(7), nil}, {of(7, 0), of(7), nil}, {of(0, 7), nil, of(7)}, {of(1, 2), of(1), of(2)}, {of(1, 2, 3), of(1, 3), of(2)}, {of(1, 2, 3, 4, 5, 6), of(1, 3, 5), of(2, 4, 6)}, {of(1, 2, 3, 4, 5, 6, 7), of(1, 3, 5, 7), of(2, 4, 6)},
		{complexOf(1, -2, 3, 4, 0, 5), complexOf(1, -2, 0, 5), complexOf(3, 4)},
		// Noughts within are told, those on top of either aren't.
		{of(0, 0, 5), of(0, 5), nil}, {of(0, 0, 0, 5), nil, of(0, 5)}, {of(1, 0, 0, 5), of(1), of(0, 5)}, {of(1, 2, 0, 0, 5), of(1, 0, 5), of(2)}, {of(1, 2, 0, 5), of(1), of(2, 5)}, {append(of(1, 2), zeros...), of(1), of(2)}, {append(append(of(1), zeros...), at(5, 0)), of(1), of(0, 0, 5)},
		{[]api.Cplx{{Re: api.Dyad{M: api.Int{Mag: []uint32{12, 0}}, E: -3}}, {Im: api.Dyad{M: api.Int{Neg: true, Mag: []uint32{0, 1}}, E: 5}}}, []api.Cplx{{Re: small(3, -1)}}, []api.Cplx{{Im: small(-1, 37)}}},
	} {
		even, odd := graeffe.Split(c.p)
		want(t, even, meant(c.even), "Split, even", c.p)
		want(t, odd, meant(c.odd), "Split, odd", c.p)
	}
}

func TestSplit(t *testing.T) { // P13.1
	singles(func(p []api.Cplx) {
		even, odd := graeffe.Split(p)
		var e, o []point
		for i, c := range meant(p) {
			if i%2 == 0 {
				e = append(e, c)
			} else {
				o = append(o, c)
			}
		}
		want(t, even, trimmed(e), "Split, even", p)
		want(t, odd, trimmed(o), "Split, odd", p)
		want(t, coefficients(joined(meant(even), meant(odd))), meant(p), "Split, joined", p)
	})
}

func TestMirrorWritten(t *testing.T) { // P13.1
	for _, c := range []struct{ p, want []api.Cplx }{
		{nil, nil}, {of(0), nil}, {zeros, nil}, {of(7), of(7)}, {of(0, 1), of(0, -1)}, {of(-2, 1), of(-2, -1)}, {of(1, 2, 3, 4, 5), of(1, -2, 3, -4, 5)}, {of(0, 0, 3, 0, -1), of(0, 0, 3, 0, -1)}, {of(0, 5, 0, -4), of(0, -5, 0, 4)}, {complexOf(1, 2, 3, -4, -5, 6, 0, 7), complexOf(1, 2, -3, 4, -5, 6, 0, -7)}, {append(of(6, 2), zeros...), of(6, -2)}, {append(append(of(1, 1), zeros...), at(5, 0)), of(1, -1, 0, 0, 0, 0, 5)},
		{[]api.Cplx{{Re: api.Dyad{M: api.Int{Mag: []uint32{12, 0}}, E: -3}}, {Im: api.Dyad{M: api.Int{Neg: true, Mag: []uint32{0, 1}}, E: 5}}}, []api.Cplx{{Re: small(3, -1)}, {Im: small(1, 37)}}},
	} {
		want(t, graeffe.Mirror(c.p), meant(c.want), "Mirror", c.p)
	}
}

func TestMirror(t *testing.T) { // P13.1
	singles(func(p []api.Cplx) {
		got := graeffe.Mirror(p)
		want(t, got, mirrored(meant(p)), "Mirror", p)
		want(t, graeffe.Mirror(got), meant(p), "Mirror", got)
	})
}

// steps: with the chapter's example.
var steps = []struct{ p, want []api.Cplx }{
	{nil, nil}, {of(), nil}, {of(0), nil}, {of(0, 0, 0), nil}, {zeros, nil},
	{of(-2, 1), of(-4, 1)}, {of(2, 1), of(-4, 1)}, {of(-2, -1), of(-4, 1)}, {of(0, 1), of(0, 1)}, {complexOf(0, -1, 1, 0), of(1, 1)},
	{of(1), of(1)}, {of(-3), of(9)}, {of(3, 0), of(9)}, {complexOf(0, 1), of(-1)}, {complexOf(1, 2), complexOf(-3, 4)},
	{of(6, 3), of(-36, 9)}, {complexOf(3, 4, 0, 1), complexOf(7, -24, -1, 0)},
	// Of degrees 2, 3, 4, 5, each root squared as often as it is one.
	{of(2, -3, 1), of(4, -5, 1)}, {of(-1, 0, 1), of(1, -2, 1)}, {of(1, -2, 1), of(1, -2, 1)}, {of(1, 0, 1), of(1, 2, 1)}, {of(1, 1, 1), of(1, 1, 1)}, {of(4, 0, 0), of(16)}, {of(0, 0, 5), of(0, 0, 25)}, {of(0, 0, -1), of(0, 0, 1)},
	{of(-6, 11, -6, 1), of(-36, 49, -14, 1)}, {of(1, 2, 3, 4), of(-1, -2, 7, 16)}, {of(0, 0, 0, 2), of(0, 0, 0, 4)}, {of(-8, 0, 0, 1), of(-64, 0, 0, 1)}, {of(0, -1, 0, 1), of(0, 1, -2, 1)},
	{of(1, 2, 3, 4, 5), of(1, 2, 3, 14, 25)}, {of(1, 0, 0, 0, 1), of(1, 0, 2, 0, 1)}, {of(0, 1, 0, 0, 1), of(0, -1, 0, 0, 1)}, {of(24, -50, 35, -10, 1), of(576, -820, 273, -30, 1)},
	{of(1, 2, 3, 4, 5, 6), of(-1, -2, -3, 10, 23, 36)}, {of(0, 0, 0, 0, 0, -1), of(0, 0, 0, 0, 0, 1)}, {of(-1, 0, 0, 0, 0, 1), of(-1, 0, 0, 0, 0, 1)},
	{append(of(-2, 1), zeros...), of(-4, 1)}, {append(append([]api.Cplx(nil), zeros...), at(0, 3)), of(0, 0, 0, 0, -9)}, {append(append(of(2), zeros...), at(1, 0)), of(-4, 0, 0, 0, 0, 1)},
	{[]api.Cplx{{Re: small(1, -1)}, {Im: small(3, 4)}}, []api.Cplx{{Re: small(-1, -2)}, {Re: small(-9, 8)}}},
}

func TestStepWritten(t *testing.T) { // P13.1
	for _, c := range steps {
		want(t, graeffe.Step(c.p), meant(c.want), "Step", c.p)
	}
}

func TestStep(t *testing.T) { // P13.1
	odd, even := 0, 0
	singles(func(p []api.Cplx) {
		a := meant(p)
		want(t, graeffe.Step(p), stepped(a), "Step", p)
		if len(a)%2 == 0 {
			odd++
		} else {
			even++
		}
	})
	asked(t, odd > 300 && even > 300, true, "Step: of both kinds", odd, even)
}

// TestHalves holds Step against what the chapter makes of Split's halves.
func TestHalves(t *testing.T) { // P13.1
	singles(func(p []api.Cplx) {
		even, odd := graeffe.Split(p)
		e, o := meant(even), meant(odd)
		wanted := plus(times(e, e), opposite(times(z(), times(o, o))))
		if len(meant(p))%2 == 0 {
			wanted = opposite(wanted)
		}
		want(t, graeffe.Step(p), wanted, "Step", p)
	})
}

func TestStepsWritten(t *testing.T) { // P13.1
	power := func(m int64, e int) []api.Cplx { return []api.Cplx{{Re: small(m, e)}, at(1, 0)} }
	for _, c := range []struct {
		p    []api.Cplx
		n    int
		want []api.Cplx
	}{
		{of(-2, 1), 0, of(-2, 1)}, {of(-2, 1), 1, of(-4, 1)}, {of(-2, 1), 2, of(-16, 1)}, {of(-2, 1), 3, of(-256, 1)}, {of(-2, 1), 5, power(-1, 32)},
		// Held at both ends.
		{of(-2, 1), -1, of(-2, 1)}, {of(2, -1), math.MinInt, of(2, -1)}, {of(-2, 1), api.MaxSteps - 1, power(-1, 2048)}, {of(-2, 1), api.MaxSteps, power(-1, 4096)}, {of(-2, 1), api.MaxSteps + 1, power(-1, 4096)}, {of(-2, 1), math.MaxInt, power(-1, 4096)}, {of(-2, 1), 1 << 32, power(-1, 4096)}, {of(-2, 1), -1 << 32, of(-2, 1)},
		{[]api.Cplx{{Re: small(1, -1)}, at(1, 0)}, 4, power(-1, -16)}, {power(5, api.MaxE), 0, power(5, api.MaxE)}, {power(-1, api.MaxE), 6, power(-1, 64*api.MaxE)},
		{nil, 3, nil}, {nil, 0, nil}, {zeros, 0, nil}, {zeros, 20, nil}, {append(of(0, 6), zeros...), 0, of(0, 6)}, {append(of(0, 6), zeros...), 1, of(0, 36)}, {of(3), 2, of(81)}, {complexOf(0, 1), 1, of(-1)}, {complexOf(0, 1), 2, of(1)}, {of(-1), 12, of(1)},
		{of(2, -3, 1), 3, of(256, -257, 1)}, {of(1, 0, 1), 2, of(1, -2, 1)}, {of(1, 1, 1), 12, of(1, 1, 1)}, {of(-1, 0, 0, 0, 1), 2, of(1, -4, 6, -4, 1)},
		{[]api.Cplx{{Re: api.Dyad{M: api.Int{Mag: []uint32{12, 0}}, E: -3}, Im: api.Dyad{M: api.Int{Neg: true, Mag: []uint32{0, 1}}, E: 5}}}, 0, []api.Cplx{{Re: small(3, -1), Im: small(-1, 37)}}},
	} {
		want(t, graeffe.Steps(c.p, c.n), meant(c.want), "Steps", c.p, c.n)
	}
}

func TestSteps(t *testing.T) { // P13.1
	i := 0
	singles(func(p []api.Cplx) {
		i++
		n := i % 4
		wanted := meant(p)
		for range n {
			wanted = stepped(wanted)
		}
		want(t, graeffe.Steps(p, n), wanted, "Steps", p, n)
	})
	r := rand.New(rand.NewSource(132))
	for range 12 {
		p := somePoly(r, 5, 1, 9)
		wanted := meant(p)
		for n := range api.MaxSteps + 2 {
			want(t, graeffe.Steps(p, n), wanted, "Steps", p, n)
			if n < api.MaxSteps {
				wanted = stepped(wanted)
			}
		}
	}
}
