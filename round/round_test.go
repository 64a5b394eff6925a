package round_test

import (
	"math"
	"math/big"
	"math/rand"
	"slices"
	"testing"

	"annulus/api"
	"annulus/dyad"
	"annulus/round"
)

// grids calls Grid with all modes and holds it against math/big.
func grids(t *testing.T, x api.Dyad, e int) {
	t.Helper()
	for _, mode := range modes {
		want(t, "Grid", x, e, mode, round.Grid(x, e, mode), rounded(meant(x), e, mode))
	}
}

// tos does likewise with To, Ulp and Fits.
func tos(t *testing.T, x api.Dyad, p int) {
	t.Helper()
	n := meant(x)
	e := unit(n, p)
	for _, mode := range modes {
		want(t, "To", x, p, mode, round.To(x, p, mode), rounded(n, e, mode))
	}
	ulp := newNumber(big.NewInt(int64(n.m.CmpAbs(new(big.Int)))), held(e, -api.MaxE, api.MaxE))
	want(t, "Ulp", x, p, 0, round.Ulp(x, p), ulp)
	fits := equal(dyadOf(rounded(n, e, api.Down)), dyadOf(n))
	if round.Fits(x, p) != fits {
		t.Fatalf("Fits of a number of exponent %d, %d limbs, %d: %v", x.E, len(x.M.Mag), p, !fits)
	}
}

// TestGridWritten has quarters from -2 to 2, rounded to whole numbers.
func TestGridWritten(t *testing.T) { // P5.1
	down := []int64{-2, -2, -2, -2, -1, -1, -1, -1, 0, 0, 0, 0, 1, 1, 1, 1, 2}
	up := []int64{-2, -1, -1, -1, -1, 0, 0, 0, 0, 1, 1, 1, 1, 2, 2, 2, 2}
	near := []int64{-2, -2, -2, -1, -1, -1, 0, 0, 0, 0, 0, 1, 1, 1, 2, 2, 2}
	for i := range down {
		x := small(int64(i)-8, -2)
		whole := func(n int64) number { return newNumber(big.NewInt(n), 0) }
		want(t, "Grid", x, 0, api.Down, round.Grid(x, 0, api.Down), whole(down[i]))
		want(t, "Grid", x, 0, api.Up, round.Grid(x, 0, api.Up), whole(up[i]))
		for _, mode := range others {
			want(t, "Grid", x, 0, mode, round.Grid(x, 0, mode), whole(near[i]))
		}
	}
}

func TestGrid(t *testing.T) { // P5.1
	for _, m := range edges() {
		for _, d := range []int{0, -40, 21} {
			for e := -42; e < 122; e++ {
				grids(t, api.Dyad{M: m, E: d}, e)
			}
		}
	}
	singles(func(x api.Dyad) {
		n := meant(x)
		for _, e := range []int{n.e - 1, n.e, n.e + 1, n.e + 2, n.e + n.m.BitLen()/2, n.e + n.m.BitLen() - 1, n.e + n.m.BitLen(), n.e + n.m.BitLen() + 1, 0} {
			grids(t, x, e)
		}
	})
}

// TestGridHeld asks e at both ends that are held, and beyond them.
func TestGridHeld(t *testing.T) { // P5.1
	ends := []int{api.MaxE - 1, api.MaxE, api.MaxE + 1, api.MaxE + 2, 1 << 40, math.MaxInt, 1 - api.MaxE, -api.MaxE, -api.MaxE - 1, -api.MaxE - 2, -1 << 40, math.MinInt}
	for _, e := range ends {
		singles(func(x api.Dyad) { grids(t, x, e) })
	}
	for _, c := range []struct {
		x       api.Dyad
		e, mode int
		want    api.Dyad
	}{
		{small(1, 0), math.MaxInt, api.Up, small(1, api.MaxE)},
		{small(-1, 0), math.MaxInt, api.Down, small(-1, api.MaxE)},
		{small(1, 0), math.MaxInt, api.Down, api.Dyad{}},
		{small(3, api.MaxE), api.MaxE + 1, api.Down, small(3, api.MaxE)},
		{small(1, api.MaxE-1), api.MaxE + 1, api.Near, api.Dyad{}},
		{small(3, api.MaxE-1), api.MaxE + 1, api.Near, small(1, api.MaxE+1)},
		{small(1, -api.MaxE-1), math.MinInt, api.Up, small(1, -api.MaxE)},
		{small(-3, -api.MaxE-1), math.MinInt, api.Near, small(-1, -api.MaxE+1)},
		{small(3, -api.MaxE), -api.MaxE - 1, api.Down, small(3, -api.MaxE)},
	} {
		if got := round.Grid(c.x, c.e, c.mode); !equal(got, c.want) {
			t.Errorf("Grid(%v, %d, mode %d): %v, want %v", c.x, c.e, c.mode, got, c.want)
		}
	}
}

// TestToWritten has the chapter's example, and where a bit more is needed for
// what comes out.
func TestToWritten(t *testing.T) { // P5.1
	for _, c := range []struct {
		x             int64
		p             int
		down, up, mid int64
	}{
		{5, 2, 4, 6, 4}, {-5, 2, -6, -4, -4}, {7, 2, 6, 8, 8}, {-7, 2, -8, -6, -8}, {6, 2, 6, 6, 6},
		{5, 1, 4, 8, 4}, {6, 1, 4, 8, 8}, {7, 1, 4, 8, 8}, {-6, 1, -8, -4, -8}, {-5, 0, -8, -4, -4}, {7, math.MinInt, 4, 8, 8},
		{5, 3, 5, 5, 5}, {-5, 4, -5, -5, -5}, {5, math.MaxInt, 5, 5, 5}, {1, 1, 1, 1, 1}, {-1, -1, -1, -1, -1}, {0, 1, 0, 0, 0}, {0, math.MinInt, 0, 0, 0},
		{3, 1, 2, 4, 4}, {-3, 1, -4, -2, -4}, {1000, 4, 960, 1024, 1024}, {1001, 9, 1000, 1002, 1000}, {1003, 9, 1002, 1004, 1004},
	} {
		x := dyad.Of(c.x)
		want(t, "To", x, c.p, api.Down, round.To(x, c.p, api.Down), newNumber(big.NewInt(c.down), 0))
		want(t, "To", x, c.p, api.Up, round.To(x, c.p, api.Up), newNumber(big.NewInt(c.up), 0))
		for _, mode := range others {
			want(t, "To", x, c.p, mode, round.To(x, c.p, mode), newNumber(big.NewInt(c.mid), 0))
		}
		if fits := c.down == c.x; round.Fits(x, c.p) != fits {
			t.Errorf("Fits(%d, %d): %v", c.x, c.p, !fits)
		}
	}
}

func TestUlpWritten(t *testing.T) { // P5.1
	for _, c := range []struct {
		x    api.Dyad
		p    int
		want api.Dyad
	}{
		{small(5, 0), 2, small(1, 1)},
		{small(-5, 0), 2, small(1, 1)},
		{small(5, 0), 3, small(1, 0)},
		{small(4, 0), 5, small(1, -2)},
		{small(5, -7), 1, small(1, -5)},
		{small(5, 0), 0, small(1, 2)},
		{small(5, 0), math.MinInt, small(1, 2)},
		{small(1, 0), api.MaxBits, small(1, 1-api.MaxBits)},
		{small(1, 0), api.MaxBits + 1, small(1, 1-api.MaxBits)},
		{small(1, 0), math.MaxInt, small(1, 1-api.MaxBits)},
		{small(1, api.MaxE), 1, small(1, api.MaxE)},
		{small(1, api.MaxE+1), 1, small(1, api.MaxE)},
		{small(1, -api.MaxE), 1, small(1, -api.MaxE)},
		{small(1, -api.MaxE), 2, small(1, -api.MaxE)},
		{api.Dyad{}, 5, api.Dyad{}},
		{api.Dyad{M: api.Int{Neg: true, Mag: []uint32{0}}, E: 9}, 1, api.Dyad{}},
	} {
		if got := round.Ulp(c.x, c.p); !equal(got, c.want) {
			t.Errorf("Ulp(%v, %d): %v, want %v", c.x, c.p, got, c.want)
		}
	}
}

// TestTo asks p at both ends that are held, and beyond them.
func TestTo(t *testing.T) { // P5.1
	singles(func(x api.Dyad) {
		bits := meant(x).m.BitLen()
		for _, p := range []int{1, 0, math.MinInt, 2, 31, 32, 33, 64, bits - 1, bits, bits + 1, api.MaxBits - 1, api.MaxBits, api.MaxBits + 1, math.MaxInt} {
			tos(t, x, p)
		}
	})
}

// TestToHeld has numbers of so many bits that they don't fit where p is held.
func TestToHeld(t *testing.T) { // P5.1
	for bits := uint(api.MaxBits - 2); bits < api.MaxBits+4; bits++ {
		for low := range uint(4) {
			for _, s := range []int64{1, -1} {
				m := new(big.Int).Lsh(big.NewInt(1), bits)
				m.Add(m, new(big.Int).Lsh(big.NewInt(1), low)).Mul(m, big.NewInt(s))
				for _, e := range []int{0, -50, 7} {
					for _, p := range []int{api.MaxBits - 1, api.MaxBits, api.MaxBits + 1, api.MaxBits + 2, math.MaxInt} {
						tos(t, dyadOf(number{m, e}), p)
					}
				}
			}
		}
	}
	x := dyad.Add(small(1, api.MaxBits), small(1, 0))
	if round.Fits(x, api.MaxBits+1) || !round.Fits(dyad.Add(small(1, api.MaxBits), small(1, 1)), api.MaxBits) {
		t.Error("Fits, where p is held")
	}
}

// TestStepHeld has numbers so large, so small that Grid holds what To hands it.
func TestStepHeld(t *testing.T) { // P5.1
	for _, d := range []int{api.MaxE - 70, api.MaxE, api.MaxE + 5, api.MaxE + api.MaxBits, 3 * api.MaxE, far, -api.MaxE - 70, -api.MaxE - 1, -api.MaxE, api.MaxBits - api.MaxE, -3 * api.MaxE, -far} {
		for _, m := range []int64{1, -1, 5, -7, 1<<62 + 1, -1<<62 - 3} {
			for _, p := range []int{1, 2, 3, 30, 63, api.MaxBits} {
				tos(t, small(m, d), p)
			}
		}
	}
}

// between fails unless low, x, high stand so, no more than one multiple apart,
// and near is the one of both that isn't farther from x.
func between(t *testing.T, low, x, high, near, unit api.Dyad) {
	t.Helper()
	if dyad.Cmp(low, x) > 0 || dyad.Cmp(x, high) > 0 {
		t.Fatalf("%v isn't from %v to %v", x, low, high)
	}
	if width := dyad.Sub(high, low); dyad.Sign(width) != 0 && !dyad.Same(width, unit) {
		t.Fatalf("%v: from %v to %v: %v apart, want %v", x, low, high, width, unit)
	}
	if dyad.Same(low, x) != dyad.Same(high, x) {
		t.Fatalf("%v: it is a multiple, but from %v to %v", x, low, high)
	}
	if dyad.Cmp(dyad.Abs(dyad.Sub(x, near)), dyad.Sub(x, low)) > 0 || dyad.Cmp(dyad.Abs(dyad.Sub(x, near)), dyad.Sub(high, x)) > 0 {
		t.Fatalf("%v: %v is nearer or farther than %v, %v", x, near, low, high)
	}
	if !dyad.Same(near, low) && !dyad.Same(near, high) {
		t.Fatalf("%v: %v is neither %v nor %v", x, near, low, high)
	}
}

func TestSides(t *testing.T) { // P5.2
	r := rand.New(rand.NewSource(52))
	singles(func(x api.Dyad) {
		e := held(dyad.Top(x)+r.Intn(150)-120, -api.MaxE, api.MaxE)
		between(t, round.Grid(x, e, api.Down), x, round.Grid(x, e, api.Up), round.Grid(x, e, api.Near), small(1, e))
		p := r.Intn(100) - 2
		between(t, round.To(x, p, api.Down), x, round.To(x, p, api.Up), round.To(x, p, api.Near), round.Ulp(x, p))
		if round.Fits(x, p) != dyad.Same(round.To(x, p, api.Down), x) {
			t.Fatalf("Fits(%v, %d): %v", x, p, round.Fits(x, p))
		}
	})
}

// ways: one number, written in several ways.
func ways(x api.Dyad) []api.Dyad {
	n := meant(x)
	out := []api.Dyad{x, dyadOf(n)}
	for _, low := range []uint{1, 31, 32, 45, 64, 97} {
		way := dyadOf(number{new(big.Int).Lsh(n.m, low), n.e - int(low)})
		if n.m.Sign() == 0 {
			way.E, way.M.Neg = int(low)-40, low%2 > 0
		}
		out = append(out, way)
		way.M.Mag = append(slices.Clone(way.M.Mag), 0, 0)
		out = append(out, way)
	}
	return out
}

// TestWays sees that all calls answer alike, however a number is written.
func TestWays(t *testing.T) { // P5.1
	r := rand.New(rand.NewSource(53))
	for i := range 1000 {
		x, n := some(r, 3, 60), r.Intn(90)-10
		if i < 9 {
			x.M.Mag = make([]uint32, i/3)
		}
		first, fits := answers(x, n), round.Fits(x, n)
		for _, way := range ways(x) {
			if got := answers(way, n); !slices.EqualFunc(got, first, equal) || round.Fits(way, n) != fits {
				t.Fatalf("answers to %v, %d: %v, %v, to %v: %v, %v", x, n, first, fits, way, got, round.Fits(way, n))
			}
		}
	}
}

// TestNought asks 0 with whatever exponent and sign.
func TestNought(t *testing.T) { // P5.1
	for _, e := range []int{0, 1, -1, api.MaxE + 1, -api.MaxE - 1, far, -far, 1 << 40, math.MaxInt, math.MinInt} {
		for i := range 6 {
			zero := api.Dyad{M: api.Int{Neg: i%2 > 0, Mag: make([]uint32, i/2)}, E: e}
			for _, n := range []int{0, 1, -1, 50, math.MaxInt, math.MinInt} {
				for _, got := range answers(zero, n) {
					if !equal(got, api.Dyad{}) {
						t.Fatalf("answers to %v, %d: %v", zero, n, got)
					}
				}
				if !round.Fits(zero, n) {
					t.Fatalf("Fits(%v, %d): false", zero, n)
				}
			}
		}
	}
}

// TestManyGone has more bits below the multiples than whole shifts at once.
func TestManyGone(t *testing.T) { // P5.1, P5.2
	for _, n := range []int{99999, 100000, 100001, 100032, 777777, far} {
		for _, m := range []int64{1, -1, 5, -7} {
			grids(t, small(m, -n), 0)
			grids(t, small(m, -n), api.MaxE)
			for _, low := range []int64{-1, 0, 1} {
				// Just the middle of two, and beside it.
				long := new(big.Int).Lsh(big.NewInt(m), uint(n))
				long.Add(long, big.NewInt(low))
				for _, e := range []int{-n, -n - 1, 1 - n, 5 - n} {
					grids(t, dyadOf(number{long, e}), 1)
				}
				tos(t, dyadOf(number{long, -n}), 2)
				tos(t, dyadOf(number{long, -n}), api.MaxBits)
			}
		}
	}
}

// TestFar asks exponents beyond what is read, up to where dyad promises
// nothing.
func TestFar(t *testing.T) { // P5.1, P5.2
	for _, d := range []int{-far, -far + 1, -123457, -api.MaxE - 1, api.MaxE + 1, 100003, far - 1, far} {
		for _, m := range []int64{1, -1, 3, -12, 0, math.MinInt64} {
			for _, e := range []int{-api.MaxE, -1, 0, 7, api.MaxE, math.MaxInt, math.MinInt} {
				grids(t, small(m, d), e)
			}
		}
	}
}

// TestBeyond sees that all calls come back with what lies on the right side,
// however far an exponent lies.
func TestBeyond(t *testing.T) { // P5.2
	for _, d := range []int{far + 1, 1 << 30, 1<<30 + 1, 1 << 40, math.MaxInt/2 - 5, math.MaxInt, math.MaxInt - 1} {
		for _, m := range []int64{1, -3} {
			for _, n := range []int{0, 1, -5, 60, math.MaxInt, math.MinInt} {
				low := held(n, -api.MaxE, api.MaxE)
				tiny, lows, highs := small(m, -d), api.Dyad{}, small(1, low)
				if m < 0 {
					lows, highs = small(-1, low), api.Dyad{}
				}
				if !equal(round.Grid(tiny, n, api.Down), lows) || !equal(round.Grid(tiny, n, api.Up), highs) || !equal(round.Grid(tiny, n, api.Near), api.Dyad{}) || round.Fits(tiny, n) {
					t.Fatalf("Grid or Fits of %v, %d", tiny, n)
				}
				huge := small(m, d)
				if d > math.MaxInt/2 {
					huge.E = math.MaxInt / 2 // what lies beyond is held there
				}
				for _, mode := range modes {
					if !equal(round.Grid(small(m, d), n, mode), huge) || !equal(round.To(small(m, d), n, mode), huge) || !round.Fits(small(m, d), n) {
						t.Fatalf("Grid, To or Fits of %v, %d, mode %d", huge, n, mode)
					}
				}
				if !equal(round.Ulp(tiny, n), small(1, -api.MaxE)) || !equal(round.Ulp(huge, n), small(1, api.MaxE)) {
					t.Fatalf("Ulp of %v or %v, %d", tiny, huge, n)
				}
			}
		}
	}
}

// answers: all numbers that the calls answer to x and n.
func answers(x api.Dyad, n int) []api.Dyad {
	out := []api.Dyad{round.Ulp(x, n)}
	for _, mode := range []int{api.Down, api.Up, api.Near} {
		out = append(out, round.To(x, n, mode), round.Grid(x, n, mode))
	}
	return out
}

// roomy: a copy of x that has spare room, which is written full.
func roomy(x api.Dyad) api.Dyad {
	mag := append(slices.Clone(x.M.Mag), 77, 78, 79)
	return api.Dyad{M: api.Int{Neg: x.M.Neg, Mag: mag[:len(x.M.Mag)]}, E: x.E}
}

// full: what lies in such a copy, its spare room too.
func full(x api.Dyad) []uint32 { return slices.Clone(x.M.Mag[:len(x.M.Mag)+3]) }

// memory writes over each answer, its spare room too, and sees whether the
// argument or another answer is touched.
func memory(t *testing.T, x api.Dyad, n int) {
	t.Helper()
	x = roomy(x)
	was, fits := full(x), round.Fits(x, n)
	first, second := answers(x, n), answers(x, n)
	kept := make([]api.Dyad, len(first))
	for i, a := range first {
		kept[i] = api.Dyad{M: api.Int{Neg: a.M.Neg, Mag: slices.Clone(a.M.Mag)}, E: a.E}
	}
	for i := range first {
		mag := first[i].M.Mag[:cap(first[i].M.Mag)]
		for j := range mag {
			mag[j] = 4711
		}
		if !slices.Equal(full(x), was) {
			t.Fatalf("answer %d to %v, %d shares memory with it", i, x, n)
		}
		if !slices.EqualFunc(first[i+1:], kept[i+1:], equal) {
			t.Fatalf("answer %d to %v, %d shares memory with another one", i, x, n)
		}
	}
	if !slices.EqualFunc(second, kept, equal) || round.Fits(x, n) != fits {
		t.Fatalf("answers to %v, %d: %v, then %v", x, n, kept, second)
	}
}

func TestMemory(t *testing.T) { // P5.1: with what holds everywhere
	for _, m := range edges() {
		for _, e := range []int{0, -32, 33} {
			for _, n := range []int{-5, 0, 1, 2, 31, 32, 33, 70} {
				memory(t, api.Dyad{M: m, E: e}, n)
			}
		}
	}
	r := rand.New(rand.NewSource(54))
	for range 1000 {
		memory(t, some(r, 6, 60), r.Intn(200)-60)
	}
}
