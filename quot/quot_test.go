package quot_test

import (
	"math"
	"math/big"
	"math/rand"
	"slices"
	"strconv"
	"testing"

	"annulus/api"
	"annulus/dyad"
	"annulus/quot"
	"annulus/round"
)

// divide calls Div and holds it against math/big.
func divide(t *testing.T, x, y api.Dyad, p, mode int) {
	t.Helper()
	what := func() string { return call("Div", p, mode, x, y) }
	got, e := quot.Div(x, y, p, mode)
	a, b := meant(x), meant(y)
	switch {
	case b.m.Sign() == 0:
		refused(t, what, got, e, api.ErrZero)
	case a.m.Sign() == 0:
		want(t, what, got, e, a)
	default:
		want(t, what, got, e, divided(a, b, p, mode))
	}
}

// root does likewise with Root.
func root(t *testing.T, x api.Dyad, p, mode int) {
	t.Helper()
	what := func() string { return call("Root", p, mode, x) }
	got, e := quot.Root(x, p, mode)
	n := meant(x)
	switch n.m.Sign() {
	case -1:
		refused(t, what, got, e, api.ErrNeg)
	case 0:
		want(t, what, got, e, n)
	default:
		want(t, what, got, e, rooted(n, p, mode))
	}
}

// divides asks all modes.
func divides(t *testing.T, x, y api.Dyad, p int) {
	t.Helper()
	for _, mode := range modes {
		divide(t, x, y, p, mode)
	}
}

// roots does likewise.
func roots(t *testing.T, x api.Dyad, p int) {
	t.Helper()
	for _, mode := range modes {
		root(t, x, p, mode)
	}
}

// named: a name that needn't be made up.
func named(s string) func() string { return func() string { return s } }

// TestDivWritten has the chapter's example; what is wanted stands in parts of a
// whole.
func TestDivWritten(t *testing.T) { // P6.1
	for _, c := range []struct {
		x, y           int64
		p              int
		down, up, part int64
	}{
		{1, 3, 2, 2, 3, 8}, {-1, 3, 2, -3, -2, 8}, {1, -3, 2, -3, -2, 8}, {-1, -3, 2, 2, 3, 8},
		{1, 3, 1, 1, 2, 4}, {2, 3, 1, 1, 2, 2}, {2, 3, 2, 2, 3, 4}, {2, 3, 3, 5, 6, 8}, {3, 2, 1, 1, 2, 1}, {3, 2, 2, 3, 3, 2}, {3, -2, 1, -2, -1, 1},
		{1, 3, 0, 1, 2, 4}, {1, 3, -9, 1, 2, 4}, {1, 3, math.MinInt, 1, 2, 4}, {-1, 3, math.MinInt, -2, -1, 4},
		{6, 3, 1, 2, 2, 1}, {6, 3, math.MaxInt, 2, 2, 1}, {-7, 7, 1, -1, -1, 1}, {10, 3, 2, 3, 4, 1}, {10, 3, 4, 13, 14, 4}, {100, 7, 3, 14, 16, 1}, {-100, 7, 3, -16, -14, 1},
		{63, 8, 3, 7, 8, 1}, {63, 8, 5, 31, 32, 4}, {63, 8, 6, 63, 63, 8}, {255, 256, 7, 127, 128, 128}, {7, 1, 2, 6, 8, 1}, {7, 1, 3, 7, 7, 1},
	} {
		part := dyad.Of(c.part)
		up, e := quot.Div(dyad.Of(c.x), dyad.Of(c.y), c.p, api.Up)
		want(t, named("Div up"), dyad.Mul(up, part), e, newNumber(big.NewInt(c.up), 0))
		for _, mode := range downs {
			down, e := quot.Div(dyad.Of(c.x), dyad.Of(c.y), c.p, mode)
			want(t, named("Div down"), dyad.Mul(down, part), e, newNumber(big.NewInt(c.down), 0))
		}
	}
}

func TestRootWritten(t *testing.T) { // P6.2
	for _, c := range []struct {
		x              int64
		e, p           int
		down, up, part int64
	}{
		{2, 0, 1, 1, 2, 1}, {2, 0, 2, 2, 3, 2}, {2, 0, 3, 5, 6, 4}, {2, 0, 8, 181, 182, 128}, {3, 0, 1, 1, 2, 1}, {3, 0, 2, 3, 4, 2},
		{1, 0, 1, 1, 1, 1}, {4, 0, 1, 2, 2, 1}, {9, 0, 1, 2, 4, 1}, {9, 0, 2, 3, 3, 1}, {9, 0, math.MaxInt, 3, 3, 1}, {9, 0, math.MinInt, 2, 4, 1}, {9, 0, 0, 2, 4, 1},
		{15, 0, 2, 3, 4, 1}, {16, 0, 2, 4, 4, 1}, {17, 0, 3, 4, 5, 1}, {99, 0, 4, 9, 10, 1}, {100, 0, 3, 10, 10, 1}, {100, 0, 2, 8, 12, 1}, {101, 0, 4, 10, 11, 1},
		{1, -1, 1, 1, 2, 2}, {1, -2, 1, 1, 1, 2}, {1, -3, 1, 1, 2, 4}, {1, -3, 2, 2, 3, 8}, {3, -5, 1, 1, 2, 4}, {9, -4, 2, 3, 3, 4}, {9, -4, 1, 2, 4, 4}, {7, -3, 2, 3, 4, 4}, {1, 1, 1, 1, 2, 1},
	} {
		x, part := small(c.x, c.e), dyad.Of(c.part)
		up, e := quot.Root(x, c.p, api.Up)
		want(t, named("Root up"), dyad.Mul(up, part), e, newNumber(big.NewInt(c.up), 0))
		for _, mode := range downs {
			down, e := quot.Root(x, c.p, mode)
			want(t, named("Root down"), dyad.Mul(down, part), e, newNumber(big.NewInt(c.down), 0))
		}
	}
}

// precisions: where a limb's border is passed, and where p is held.
var precisions = []int{1, 0, math.MinInt, 2, 3, 31, 32, 33, 64, 65, 96, 97, 130, api.MaxBits - 1, api.MaxBits, api.MaxBits + 1, math.MaxInt}

func TestDiv(t *testing.T) { // P6.1
	i := 0
	pairs(func(x, y api.Dyad) {
		divides(t, x, y, precisions[i%len(precisions)])
		divides(t, x, y, 1+i%200)
		i++
	})
	for _, p := range precisions {
		for _, a := range []int64{1, -2, 7, math.MaxInt64, math.MinInt64} {
			for _, b := range []int64{1, -1, 3, -7, 10, top, top + 1, math.MaxInt64, math.MinInt64} {
				divides(t, small(a, 5), small(b, -8), p)
			}
		}
	}
}

func TestRoot(t *testing.T) { // P6.2
	i := 0
	singles(func(x api.Dyad) {
		roots(t, x, precisions[i%len(precisions)])
		roots(t, x, 1+i%200)
		i++
	})
	for _, p := range precisions {
		for n := range int64(70) {
			roots(t, small(n, 0), p)
			roots(t, small(n, -13), p)
			roots(t, small(math.MaxInt64-n, 7), p)
		}
	}
}

func TestErrors(t *testing.T) { // P6.1, P6.2: an error's result is 0
	for _, e := range []int{0, 5, -5, api.MaxE + 1, far + 1, math.MaxInt, math.MinInt} {
		for i := range 6 {
			zero := api.Dyad{M: api.Int{Neg: i%2 > 0, Mag: make([]uint32, i/2)}, E: e}
			for _, p := range precisions {
				for _, x := range []api.Dyad{small(1, 0), small(-3, 9), {}, zero, small(1, -api.MaxE)} {
					divides(t, x, zero, p)
					divides(t, zero, x, p)
				}
				roots(t, zero, p)
				roots(t, small(-1, e/2), p)
				roots(t, api.Dyad{M: api.Int{Neg: true, Mag: []uint32{0, 1 << 31, 0}}, E: e}, p)
			}
		}
	}
}

// TestStepHeld has quotients and roots so large, so small that Grid holds what
// To hands it.
func TestStepHeld(t *testing.T) { // P6.1, P6.2
	ends := []int{api.MaxE - 70, api.MaxE, api.MaxE + 5, api.MaxE + api.MaxBits, 2*api.MaxE - 1, 2 * api.MaxE, 2*api.MaxE + 7, 2*api.MaxE + api.MaxBits, 65001}
	i := 0
	for _, d := range ends {
		for _, p := range []int{1, 2, 3, 30, 63, api.MaxBits} {
			for _, m := range []int64{1, 3, 5, -7, 1<<62 + 1, -1<<62 - 3} {
				i++
				mode := modes[i%len(modes)]
				root(t, small(m, d), p, mode)
				root(t, small(m, -d), p, mode)
				divide(t, small(m, d), small(3, 0), p, mode)
				divide(t, small(m, 0), small(-3, d), p, mode)
				divide(t, small(m, -d/2), small(1, d/2), p, mode)
				divide(t, small(m, d), small(1<<40+1, -d), p, mode)
			}
		}
	}
}

// TestFar has the farthest exponents of which something is promised.
func TestFar(t *testing.T) { // P6.1, P6.2
	for _, mode := range []int{api.Down, api.Up} {
		root(t, small(-5, far), 1, mode)
		root(t, small(5, -far), 9, mode)
		root(t, small(1, far), api.MaxBits, mode)
		divide(t, small(5, far), small(-7, -far), 3, mode)
		divide(t, small(-5, -far), small(-7, far), 3, mode)
		divide(t, small(5, far), small(7, far), 3, mode)
		divide(t, small(5, -far), small(7, -far), api.MaxBits, mode)
	}
	root(t, small(5, far), 1, api.Up)
}

// TestTiny has quotients below the least multiple.
func TestTiny(t *testing.T) { // P6.1
	third := func(x, y api.Dyad, mode int) api.Dyad { q, _ := quot.Div(x, y, 1, mode); return q }
	if q := third(small(-1, -api.MaxE), small(3, api.MaxE), api.Down); !equal(q, small(-1, -api.MaxE)) {
		t.Errorf("a tiny quotient, Down: %v", q)
	}
	if q := third(small(-1, -api.MaxE), small(3, api.MaxE), api.Up); !equal(q, api.Dyad{}) {
		t.Errorf("a tiny quotient, Up: %v", q)
	}
	if q := third(small(1, -api.MaxE), small(1, 1), api.Up); !equal(q, small(1, -api.MaxE)) {
		t.Errorf("half of the least multiple, Up: %v", q)
	}
}

// TestAsTo has quotients and roots that are numbers: they are told as To tells
// them.
func TestAsTo(t *testing.T) { // P6.1, P6.2
	i := 0
	pairs(func(q, y api.Dyad) {
		i++
		p := precisions[i%len(precisions)]
		if i%2 > 0 {
			p = i % 150
		}
		for _, mode := range []int{api.Down, api.Up} {
			if dyad.Sign(y) != 0 {
				got, e := quot.Div(dyad.Mul(q, y), y, p, mode)
				want(t, named("Div of a product"), got, e, meant(round.To(q, p, mode)))
			}
			got, e := quot.Root(dyad.Mul(q, q), p, mode)
			want(t, named("Root of a square"), got, e, meant(round.To(dyad.Abs(q), p, mode)))
		}
	})
}

// TestBeside has what lies just below and just above a number of few bits.
func TestBeside(t *testing.T) { // P6.1, P6.2
	r := rand.New(rand.NewSource(63))
	for range 1500 {
		q, y := some(r, 3, 40), some(r, 5, 40)
		for _, d := range []api.Dyad{small(1, -400), small(-1, -400), small(1, -9), small(-1, -9)} {
			p := 1 + r.Intn(130)
			divides(t, dyad.Add(dyad.Mul(q, y), d), y, p)
			divides(t, q, dyad.Add(y, d), p)
			roots(t, dyad.Add(dyad.Mul(q, q), d), p)
		}
	}
}

// TestGuesses has roots whose digits are full or few, so that guesses of them
// are too great.
func TestGuesses(t *testing.T) { // P6.2
	r := rand.New(rand.NewSource(64))
	for range 3000 {
		mag := make([]uint32, 2+r.Intn(12))
		for i := range mag {
			mag[i] = []uint32{top, top, top, top - 1, 0, 0, 1, 1 << 31, r.Uint32()}[r.Intn(9)]
		}
		mag[len(mag)-1] = []uint32{1, 1, 2, 3, top, r.Uint32()}[r.Intn(6)]
		x := api.Dyad{M: api.Int{Mag: mag}, E: r.Intn(3)}
		square := dyad.Mul(x, x)
		p := nearBits(r, mag)
		roots(t, x, p)
		roots(t, square, p)
		roots(t, dyad.Sub(square, dyad.Of(1)), p)
		roots(t, dyad.Add(square, dyad.Scale(x, 1)), p)
	}
}

// nearBits: so many bits as the number has, or some more or less.
func nearBits(r *rand.Rand, mag []uint32) int { return 32*len(mag) + r.Intn(66) - 60 }

// TestLong has numbers longer than nat shifts at once, and noughts below them.
func TestLong(t *testing.T) { // P6.1, P6.2
	one := big.NewInt(1)
	for _, n := range []uint{99999, 100000, 150032} {
		for low := int64(-1); low < 2; low++ {
			mode := [3]int{api.Down, api.Up, api.Near}[low+1]
			long := new(big.Int).Lsh(big.NewInt(5), n)
			long.Add(long, big.NewInt(low))
			x, y := dyadOf(number{long, 0}), dyadOf(number{new(big.Int).Add(new(big.Int).Lsh(one, n/2), big.NewInt(3)), -7})
			square := dyad.Mul(y, y)
			for _, p := range []int{1, 64, api.MaxBits} {
				divide(t, x, y, p, mode)
				divide(t, y, x, p, mode)
				divide(t, x, dyad.Of(5), p, mode)
				divide(t, dyad.Of(-5), x, p, mode)
				root(t, x, p, mode)
				root(t, square, p, mode)
			}
		}
	}
}

// TestManyDigits has what is told with many digits, as To is held there.
func TestManyDigits(t *testing.T) { // P6.1, P6.2
	for _, d := range []int{100000, 333333} {
		for _, mode := range []int{api.Down, api.Up} {
			root(t, small(7, d), 5, mode)
			root(t, small(top, d), 5, mode)
			divide(t, small(-7, d), small(1<<50+9, -d), 5, mode)
		}
	}
}

// sides fails unless low and high stand on both sides of a number x, no more
// than a step apart; reach tells how one of them stands to x.
func sides(t *testing.T, what string, low, high api.Dyad, step int, reach func(d api.Dyad) int) {
	t.Helper()
	if reach(low) > 0 || reach(high) < 0 {
		t.Fatalf("%s isn't from %v to %v", what, low, high)
	}
	if (reach(low) == 0) != (reach(high) == 0) {
		t.Fatalf("%s is one end of %v to %v alone", what, low, high)
	}
	if reach(low) != 0 && !dyad.Same(dyad.Sub(high, low), small(1, step)) {
		t.Fatalf("%s: from %v to %v: not %d apart", what, low, high, step)
	}
}

// closer fails unless each pair's ends lie no farther out than the last one's.
func closer(t *testing.T, what string, lows, highs []api.Dyad) {
	t.Helper()
	for i := range lows[1:] {
		if dyad.Cmp(lows[i], lows[i+1]) > 0 || dyad.Cmp(highs[i], highs[i+1]) < 0 {
			t.Fatalf("%s: from %v, %v to %v, %v", what, lows[i], highs[i], lows[i+1], highs[i+1])
		}
	}
}

func TestSidesOfDiv(t *testing.T) { // P6.3
	pairs(func(x, y api.Dyad) {
		if dyad.Sign(x) == 0 || dyad.Sign(y) == 0 {
			return
		}
		var lows, highs []api.Dyad
		for _, p := range []int{1, 2, 3, 9, 33, 70} {
			low, _ := quot.Div(x, y, p, api.Down)
			high, _ := quot.Div(x, y, p, api.Up)
			a, b := meant(dyad.Abs(x)), meant(dyad.Abs(y))
			sides(t, "a quotient", low, high, unit(atop(a.m, b.m)+a.e-b.e, p), func(d api.Dyad) int {
				return dyad.Sign(y) * dyad.Cmp(dyad.Mul(d, y), x)
			})
			lows, highs = append(lows, low), append(highs, high)
		}
		closer(t, "a quotient", lows, highs)
	})
}

func TestSidesOfRoot(t *testing.T) { // P6.3
	singles(func(x api.Dyad) {
		x = dyad.Abs(x)
		if dyad.Sign(x) == 0 {
			return
		}
		var lows, highs []api.Dyad
		for _, p := range []int{1, 2, 3, 9, 33, 70} {
			low, _ := quot.Root(x, p, api.Down)
			high, _ := quot.Root(x, p, api.Up)
			sides(t, "a root", low, high, unit(dyad.Top(x)>>1, p), func(d api.Dyad) int {
				return dyad.Cmp(dyad.Mul(d, d), x)
			})
			lows, highs = append(lows, low), append(highs, high)
		}
		closer(t, "a root", lows, highs)
	})
}

// TestBeyond sees that both calls come back, on the right side, however far an
// exponent lies.
func TestBeyond(t *testing.T) { // P6.3
	for _, d := range []int{far + 1, 1 << 29, 1 << 30, 1 << 40, math.MaxInt - 1, math.MaxInt} {
		for _, p := range []int{1, 30, math.MaxInt} {
			name := strconv.Itoa(d) + ", " + strconv.Itoa(p)
			for _, c := range [][2]api.Dyad{{{M: small(5, 0).M, E: -d}, small(3, 0)}, {small(-5, 0), {M: small(-3, 0).M, E: d}}} {
				low, e := quot.Div(c[0], c[1], p, api.Down)
				want(t, named("tiny, Down: "+name), low, e, meant(api.Dyad{}))
				high, e := quot.Div(c[0], c[1], p, api.Up)
				want(t, named("tiny, Up: "+name), high, e, meant(small(1, -api.MaxE)))
			}
			low, _ := quot.Root(api.Dyad{M: small(5, 0).M, E: -d}, p, api.Down)
			high, _ := quot.Root(api.Dyad{M: small(5, 0).M, E: -d}, p, api.Up)
			if !equal(low, api.Dyad{}) || !equal(high, small(1, -api.MaxE)) {
				t.Fatalf("Root of what is tiny: %s: %v, %v", name, low, high)
			}
			huge(t, name, d, p)
		}
	}
}

// huge has quotients and roots with such an exponent. What lies beyond an eighth
// of the greatest int is held there.
func huge(t *testing.T, name string, d, p int) {
	t.Helper()
	d = min(d, math.MaxInt/8)
	for _, mode := range []int{api.Down, api.Up} {
		q, _ := quot.Div(small(5, 0), small(3, 0), p, mode)
		for _, c := range [][2]api.Dyad{{small(5, d), small(3, 0)}, {small(-5, 0), small(-3, -d)}} {
			got, e := quot.Div(c[0], c[1], p, mode)
			want(t, named("huge: "+name), got, e, number{meant(q).m, q.E + d})
		}
		r, _ := quot.Root(small(5, d%2), p, mode)
		got, e := quot.Root(small(5, d), p, mode)
		want(t, named("huge root: "+name), got, e, number{meant(r).m, r.E + d/2})
	}
	if got, e := quot.Div(small(1, math.MaxInt), small(7, math.MinInt), p, api.Up); e != api.OK || dyad.Sign(got) != 1 {
		t.Fatalf("Div of the farthest: %v, %v", got, e)
	}
	if got, e := quot.Div(small(1, math.MinInt), small(7, math.MaxInt), p, api.Down); e != api.OK || dyad.Sign(got) != 0 {
		t.Fatalf("Div of the nearest: %v, %v", got, e)
	}
}

// ways: one number, written in several ways.
func ways(x api.Dyad) []api.Dyad {
	n := meant(x)
	out := []api.Dyad{x, dyadOf(n)}
	for _, low := range []uint{1, 31, 32, 45, 64, 97} {
		way := dyadOf(number{new(big.Int).Lsh(n.m, low), n.e - int(low)})
		if n.m.Sign() == 0 {
			way.E, way.M.Neg = int(low)-40, low%2 > 0
		}
		out = append(out, way)
		way.M.Mag = append(slices.Clone(way.M.Mag), 0, 0)
		out = append(out, way)
	}
	return out
}

// answers: all that the calls answer to x, y and p.
func answers(x, y api.Dyad, p int) ([]api.Dyad, []api.Errno) {
	var out []api.Dyad
	var errors []api.Errno
	for _, mode := range []int{api.Down, api.Up} {
		q, e := quot.Div(x, y, p, mode)
		r, f := quot.Root(x, p, mode)
		out, errors = append(out, q, r), append(errors, e, f)
	}
	return out, errors
}

// TestWays sees that both calls answer alike, however a number is written.
func TestWays(t *testing.T) { // P6.1, P6.2
	r := rand.New(rand.NewSource(65))
	for i := range 400 {
		x, y, p := some(r, 3, 60), some(r, 3, 60), r.Intn(90)-10
		if i < 9 {
			x.M.Mag = make([]uint32, i/3)
		}
		first, errors := answers(x, y, p)
		others := ways(y)
		for j, way := range ways(x) {
			got, e := answers(way, others[(i+j)%len(others)], p)
			if !slices.EqualFunc(got, first, equal) || !slices.Equal(e, errors) {
				t.Fatalf("answers to %v, %v, %d: %v, %v, otherwise written %v, %v", x, y, p, first, errors, got, e)
			}
		}
	}
}

// roomy: a copy of x that has spare room, which is written full.
func roomy(x api.Dyad) api.Dyad {
	mag := append(slices.Clone(x.M.Mag), 77, 78, 79)
	return api.Dyad{M: api.Int{Neg: x.M.Neg, Mag: mag[:len(x.M.Mag)]}, E: x.E}
}

// full: what lies in such a copy, its spare room too.
func full(x api.Dyad) []uint32 { return slices.Clone(x.M.Mag[:len(x.M.Mag)+3]) }

// memory writes over each answer, its spare room too, and sees whether an
// argument or another answer is touched.
func memory(t *testing.T, x, y api.Dyad, p int) {
	t.Helper()
	x, y = roomy(x), roomy(y)
	wasX, wasY := full(x), full(y)
	first, _ := answers(x, y, p)
	second, _ := answers(x, y, p)
	kept := make([]api.Dyad, len(first))
	for i, a := range first {
		kept[i] = api.Dyad{M: api.Int{Neg: a.M.Neg, Mag: slices.Clone(a.M.Mag)}, E: a.E}
	}
	for i := range first {
		mag := first[i].M.Mag[:cap(first[i].M.Mag)]
		for j := range mag {
			mag[j] = 4711
		}
		if !slices.Equal(full(x), wasX) || !slices.Equal(full(y), wasY) {
			t.Fatalf("answer %d to %v, %v, %d shares memory with them", i, x, y, p)
		}
		if !slices.EqualFunc(first[i+1:], kept[i+1:], equal) {
			t.Fatalf("answer %d to %v, %v, %d shares memory with another one", i, x, y, p)
		}
	}
	if !slices.EqualFunc(second, kept, equal) {
		t.Fatalf("answers to %v, %v, %d: %v, then %v", x, y, p, kept, second)
	}
}

func TestMemory(t *testing.T) { // P6.1, P6.2: with what holds everywhere
	i := 0
	pairs(func(x, y api.Dyad) {
		i++
		memory(t, x, y, i%140-5)
		if i%7 == 0 {
			memory(t, x, x, i%140-5)
			memory(t, dyad.Abs(x), dyad.Of(1), api.MaxBits)
		}
	})
}
