package dyad_test

import (
	"encoding/binary"
	"math"
	"math/big"
	"math/rand"
	"slices"
	"testing"

	"annulus/api"
	"annulus/dyad"
)

// The tests reckon with math/big and hold dyad against it.

const (
	top = math.MaxUint32
	far = 2000000 // beyond it nothing is promised of an argument's exponent
)

// mags: at the edges: nothing, noughts only, noughts on top, even ones, full
// limbs, a single bit on either side of a limb's border.
var mags = [][]uint32{
	nil, {}, {0}, {0, 0, 0},
	{1}, {1, 0, 0}, {2}, {3}, {4, 0}, {6}, {7}, {12}, {1 << 31},
	{top}, {top, 0}, {0, 1}, {0, 1, 0}, {1, 1}, {0, 1 << 31}, {1 << 31, 1}, {top, top},
	{0, 0, 1}, {1, 0, 1}, {0, 0, 3, 0, 0}, {0, 1 << 31, top},
}

// exponents: where a limb's border is passed, and the ends that are read.
var exponents = []int{0, 1, -1, 2, -2, 31, -31, 32, -32, 33, -33, 64, 100, -100, api.MaxE, -api.MaxE, api.MaxE - 1, 1 - api.MaxE, api.MaxE + 1, -api.MaxE - 1}

// edges: each of mags with either sign, 0 too, and each exponent.
func edges() []api.Dyad {
	var out []api.Dyad
	for _, m := range mags {
		for _, e := range exponents {
			out = append(out, api.Dyad{M: api.Int{Mag: m}, E: e}, api.Dyad{M: api.Int{Neg: true, Mag: m}, E: e})
		}
	}
	return out
}

// integer tells a as a number of the library's.
func integer(a api.Int) *big.Int {
	var text []byte
	for _, x := range slices.Backward(a.Mag) {
		text = binary.BigEndian.AppendUint32(text, x)
	}
	n := new(big.Int).SetBytes(text)
	if a.Neg {
		n.Neg(n)
	}
	return n
}

// number: m times 2 to the power of e; m is odd, or both are 0.
type number struct {
	m *big.Int
	e int
}

// newNumber tells m times 2 to the power of e so.
func newNumber(m *big.Int, e int) number {
	if m.Sign() == 0 {
		return number{new(big.Int), 0}
	}
	low := m.TrailingZeroBits()
	return number{new(big.Int).Rsh(m, low), e + int(low)}
}

// meant: the number that x is.
func meant(x api.Dyad) number { return newNumber(integer(x.M), x.E) }

// aligned: what x and y are times 2 to the power of one exponent.
func aligned(x, y number) (*big.Int, *big.Int, int) {
	e := min(x.e, y.e)
	return new(big.Int).Lsh(x.m, uint(x.e-e)), new(big.Int).Lsh(y.m, uint(y.e-e)), e
}

func sum(x, y number) number {
	a, b, e := aligned(x, y)
	return newNumber(a.Add(a, b), e)
}

func product(x, y number) number { return newNumber(new(big.Int).Mul(x.m, y.m), x.e+y.e) }

func other(x number) number { return number{new(big.Int).Neg(x.m), x.e} }

func order(x, y number) int {
	a, b, _ := aligned(x, y)
	return a.Cmp(b)
}

// highest: the exponent of x's topmost bit; 0 of 0.
func highest(x number) int {
	if x.m.Sign() == 0 {
		return 0
	}
	return x.m.BitLen() - 1 + x.e
}

// dyadOf tells x as a Dyad as it is written.
func dyadOf(x number) api.Dyad {
	mag := make([]uint32, (x.m.BitLen()+31)/32)
	text := x.m.FillBytes(make([]byte, 4*len(mag)))
	for i := range mag {
		mag[len(mag)-1-i] = binary.BigEndian.Uint32(text[4*i:])
	}
	return api.Dyad{M: api.Int{Neg: x.m.Sign() < 0, Mag: mag}, E: x.e}
}

// small: the Dyad m times 2 to the power of e, written just so.
func small(m int64, e int) api.Dyad { return dyadOf(number{big.NewInt(m), e}) }

// equal: both are written alike.
func equal(x, y api.Dyad) bool {
	return x.E == y.E && x.M.Neg == y.M.Neg && slices.Equal(x.M.Mag, y.M.Mag)
}

// want fails unless got is just the number, and as it is written.
func want(t *testing.T, what string, got api.Dyad, x number) {
	t.Helper()
	if !equal(got, dyadOf(x)) {
		if len(got.M.Mag) > 50 {
			t.Fatalf("%s: another number, of exponent %d, want %d", what, got.E, x.e)
		}
		t.Fatalf("%s: %v, want %v", what, got, dyadOf(x))
	}
}

// some: a number by chance, often even, with noughts on top, at a limb's edges.
func some(r *rand.Rand, limbs, span int) api.Dyad {
	mag := make([]uint32, r.Intn(limbs+1))
	for i := range mag {
		mag[i] = []uint32{0, 0, 1, top, 1 << 31, r.Uint32(), r.Uint32() << r.Intn(32)}[r.Intn(7)]
	}
	return api.Dyad{M: api.Int{Neg: r.Intn(2) > 0, Mag: mag}, E: r.Intn(2*span+1) - span}
}

// singles calls f with the edges and with numbers by chance.
func singles(f func(x api.Dyad)) {
	for _, x := range edges() {
		f(x)
	}
	r := rand.New(rand.NewSource(41))
	for range 3000 {
		f(some(r, 8, 200))
		f(some(r, 8, api.MaxE))
	}
}

// pairs calls f with pairs of edges and with pairs by chance.
func pairs(f func(x, y api.Dyad)) {
	for _, m := range mags {
		for _, n := range mags {
			for i := range 16 {
				x := api.Dyad{M: api.Int{Neg: i&1 > 0, Mag: m}, E: i & 4}
				f(x, api.Dyad{M: api.Int{Neg: i&2 > 0, Mag: n}, E: i & 8})
			}
		}
	}
	r := rand.New(rand.NewSource(42))
	all := edges()
	for range 3000 {
		f(all[r.Intn(len(all))], all[r.Intn(len(all))])
		f(some(r, 6, 100), some(r, 4, 100))
		x := some(r, 3, 50)
		f(x, api.Dyad{M: api.Int{Neg: r.Intn(2) > 0, Mag: x.M.Mag}, E: x.E + r.Intn(3) - 1})
	}
}

func TestIs(t *testing.T) { // P4.1
	for _, c := range []struct {
		x  api.Dyad
		is bool
	}{
		{api.Dyad{}, true},
		{api.Dyad{M: api.Int{Mag: []uint32{}}}, true},
		{api.Dyad{E: 1}, false},
		{api.Dyad{E: -1}, false},
		{api.Dyad{M: api.Int{Neg: true}}, false},
		{api.Dyad{M: api.Int{Mag: []uint32{0}}}, false},
		{small(1, 0), true},
		{small(-1, 0), true},
		{small(3, 5), true},
		{small(2, 0), false},
		{small(-12, 7), false},
		{api.Dyad{M: api.Int{Mag: []uint32{1, 0}}}, false},
		{api.Dyad{M: api.Int{Mag: []uint32{0, 1}}}, false},
		{api.Dyad{M: api.Int{Mag: []uint32{1, 1}}}, true},
		{api.Dyad{M: api.Int{Neg: true, Mag: []uint32{1, 6}}}, true},
		{small(1, api.MaxE), true},
		{small(-1, -api.MaxE), true},
		{small(1, api.MaxE+1), false},
		{small(1, -api.MaxE-1), false},
		{small(1, math.MaxInt), false},
		{small(1, math.MinInt), false},
		{api.Dyad{E: api.MaxE + 1}, false},
	} {
		if dyad.Is(c.x) != c.is {
			t.Errorf("Is(%v): %v", c.x, !c.is)
		}
	}
	singles(func(x api.Dyad) {
		is := equal(x, dyadOf(meant(x))) && -api.MaxE <= x.E && x.E <= api.MaxE
		if dyad.Is(x) != is {
			t.Fatalf("Is(%v): %v", x, !is)
		}
	})
}

func TestMake(t *testing.T) { // P4.1
	for _, c := range []struct {
		m    int64
		e    int
		want api.Dyad
	}{
		{12, 0, small(3, 2)},
		{-12, -2, small(-3, 0)},
		{1, 0, small(1, 0)},
		{0, 7, api.Dyad{}},
		{0, math.MinInt, api.Dyad{}},
		{1, api.MaxE, small(1, api.MaxE)},
		{1, api.MaxE + 1, small(1, api.MaxE)},
		{1, math.MaxInt, small(1, api.MaxE)},
		{2, api.MaxE, small(1, api.MaxE+1)},
		{6, math.MaxInt, small(3, api.MaxE+1)},
		{1, -api.MaxE, small(1, -api.MaxE)},
		{1, -api.MaxE - 1, small(1, -api.MaxE)},
		{-4, math.MinInt, small(-1, 2-api.MaxE)},
		{math.MinInt64, 0, small(-1, 63)},
		{math.MaxInt64, 0, small(math.MaxInt64, 0)},
	} {
		if got := dyad.Make(small(c.m, 0).M, c.e); !equal(got, c.want) {
			t.Errorf("Make(%d, %d): %v, want %v", c.m, c.e, got, c.want)
		}
	}
	singles(func(x api.Dyad) {
		for _, e := range []int{x.E, api.MaxE + 1, -api.MaxE - 1, math.MaxInt, math.MinInt} {
			got := dyad.Make(x.M, e)
			want(t, "Make", got, newNumber(integer(x.M), min(max(e, -api.MaxE), api.MaxE)))
			if !dyad.Is(got) && max(got.E, -got.E) <= api.MaxE {
				t.Fatalf("Is of Make(%v, %d): false", x.M, e)
			}
		}
	})
}

func TestOf(t *testing.T) { // P4.1
	for _, n := range []int64{0, 1, -1, 2, -2, 3, 12, -12, 1 << 31, 1 << 32, -1 << 33, top, math.MaxInt64, math.MinInt64, math.MinInt64 + 1, 3 << 40} {
		want(t, "Of", dyad.Of(n), newNumber(big.NewInt(n), 0))
	}
}

func TestSignNegAbs(t *testing.T) { // P4.1
	singles(func(x api.Dyad) {
		n := meant(x)
		if got := dyad.Sign(x); got != n.m.Sign() {
			t.Fatalf("Sign(%v): %d", x, got)
		}
		want(t, "Neg", dyad.Neg(x), other(n))
		want(t, "Abs", dyad.Abs(x), number{new(big.Int).Abs(n.m), n.e})
	})
}

func TestCmpAndSame(t *testing.T) { // P4.1
	pairs(func(x, y api.Dyad) {
		c := order(meant(x), meant(y))
		if got := dyad.Cmp(x, y); got != c {
			t.Fatalf("Cmp(%v, %v): %d", x, y, got)
		}
		if got := dyad.Same(x, y); got != (c == 0) {
			t.Fatalf("Same(%v, %v): %v", x, y, got)
		}
	})
}

func TestSumsAndProducts(t *testing.T) { // P4.1, P4.2
	pairs(func(x, y api.Dyad) {
		a, b := meant(x), meant(y)
		want(t, "Add", dyad.Add(x, y), sum(a, b))
		want(t, "Add", dyad.Add(y, x), sum(a, b))
		want(t, "Sub", dyad.Sub(x, y), sum(a, other(b)))
		want(t, "Sub", dyad.Sub(y, x), sum(b, other(a)))
		want(t, "Mul", dyad.Mul(x, y), product(a, b))
		want(t, "Mul", dyad.Mul(y, x), product(a, b))
	})
}

// TestExact sees that nothing is lost on the way there and back, and that
// products of sums are sums of products.
func TestExact(t *testing.T) { // P4.2
	r := rand.New(rand.NewSource(43))
	for range 2000 {
		x, y, z := some(r, 6, 500), some(r, 4, 500), some(r, 3, 500)
		want(t, "x + y - y", dyad.Sub(dyad.Add(x, y), y), meant(x))
		want(t, "x - y + y", dyad.Add(dyad.Sub(x, y), y), meant(x))
		sum := dyad.Add(dyad.Mul(x, z), dyad.Mul(y, z))
		want(t, "(x + y) z", dyad.Mul(dyad.Add(x, y), z), meant(sum))
		squares := dyad.Sub(dyad.Mul(x, x), dyad.Mul(y, y))
		want(t, "(x + y) (x - y)", dyad.Mul(dyad.Add(x, y), dyad.Sub(x, y)), meant(squares))
	}
}

// TestSameNumber hands one number in twice, and its other side.
func TestSameNumber(t *testing.T) { // P4.1, P4.2
	singles(func(x api.Dyad) {
		n, less := meant(x), api.Dyad{M: api.Int{Neg: !x.M.Neg, Mag: x.M.Mag}, E: x.E}
		want(t, "Sub", dyad.Sub(x, x), meant(api.Dyad{}))
		want(t, "Add", dyad.Add(x, less), meant(api.Dyad{}))
		want(t, "Add", dyad.Add(x, x), newNumber(n.m, n.e+1))
		want(t, "Sub", dyad.Sub(x, less), newNumber(n.m, n.e+1))
		want(t, "Mul", dyad.Mul(x, x), product(n, n))
		if dyad.Cmp(x, x) != 0 || !dyad.Same(x, x) {
			t.Fatalf("Cmp or Same of %v, it: %d, %v", x, dyad.Cmp(x, x), dyad.Same(x, x))
		}
	})
}

// TestScale asks n at both ends that are held, and beyond them.
func TestScale(t *testing.T) { // P4.1
	for _, n := range []int{0, 1, -1, 32, -33, api.MaxE - 1, api.MaxE, api.MaxE + 1, -api.MaxE, -api.MaxE - 1, 1 << 40, math.MaxInt, math.MinInt} {
		singles(func(x api.Dyad) {
			a := meant(x)
			want(t, "Scale", dyad.Scale(x, n), newNumber(a.m, a.e+min(max(n, -api.MaxE), api.MaxE)))
		})
	}
}

func TestPow(t *testing.T) { // P4.1
	powers := func(x api.Dyad) {
		t.Helper()
		power := number{big.NewInt(1), 0}
		for n := range api.MaxPow + 1 {
			want(t, "Pow", dyad.Pow(x, n), power)
			if n == 0 {
				want(t, "Pow", dyad.Pow(x, -1), power)
				want(t, "Pow", dyad.Pow(x, math.MinInt), power)
			}
			if n == api.MaxPow {
				want(t, "Pow", dyad.Pow(x, n+1), power)
				want(t, "Pow", dyad.Pow(x, math.MaxInt), power)
			}
			power = product(power, meant(x))
		}
	}
	for _, x := range edges() {
		if len(x.M.Mag) < 3 && (x.E == 0 || x.E == -33 || x.E == api.MaxE+1) {
			powers(x)
		}
	}
	r := rand.New(rand.NewSource(44))
	for range 20 {
		powers(some(r, 5, api.MaxE))
	}
}

// TestTop asks powers of two, one less, one more, at all exponents.
func TestTop(t *testing.T) { // P4.1
	for n := range 130 {
		for beside := int64(-1); beside <= 1; beside++ {
			m := new(big.Int).Lsh(big.NewInt(1), uint(n))
			x := dyadOf(number{m.Add(m, big.NewInt(beside)), 0})
			for _, x.E = range exponents {
				for _, x.M.Neg = range []bool{false, true} {
					if got := dyad.Top(x); got != highest(meant(x)) {
						t.Fatalf("Top(%v): %d", x, got)
					}
				}
			}
		}
	}
	singles(func(x api.Dyad) {
		got := dyad.Top(x)
		if got != highest(meant(x)) {
			t.Fatalf("Top(%v): %d", x, got)
		}
		if dyad.Sign(x) == 0 {
			return
		}
		bit := dyad.Scale(dyad.Scale(dyad.Of(1), got/2), got-got/2)
		if dyad.Cmp(bit, dyad.Abs(x)) > 0 || dyad.Cmp(dyad.Scale(bit, 1), dyad.Abs(x)) <= 0 {
			t.Fatalf("Top(%v): %d", x, got)
		}
	})
}

// ways: one number, written in several ways.
func ways(x api.Dyad) []api.Dyad {
	n := meant(x)
	out := []api.Dyad{x, dyadOf(n)}
	for _, low := range []uint{0, 1, 31, 32, 45, 64, 97} {
		way := dyadOf(number{new(big.Int).Lsh(n.m, low), n.e - int(low)})
		if n.m.Sign() == 0 {
			way.E, way.M.Neg = int(low)-40, low%2 > 0
		}
		out = append(out, way)
		way.M.Mag = append(slices.Clone(way.M.Mag), 0, 0)
		out = append(out, way)
	}
	return out
}

// TestWays sees that all calls answer alike, however a number is written.
func TestWays(t *testing.T) { // P4.1
	r := rand.New(rand.NewSource(45))
	for i := range 300 {
		x, y := some(r, 3, 60), some(r, 3, 60)
		if i < 4 {
			x.M.Mag = nil
		}
		first, relation := answers(x, y), dyad.Cmp(x, y)
		for _, a := range ways(x) {
			for _, b := range ways(y) {
				if got := answers(a, b); !slices.EqualFunc(got, first, equal) {
					t.Fatalf("answers to %v, %v: %v, to %v, %v: %v", x, y, first, a, b, got)
				}
				if dyad.Cmp(a, b) != relation || dyad.Same(a, b) != (relation == 0) {
					t.Fatalf("Cmp(%v, %v): %d, want %d", a, b, dyad.Cmp(a, b), relation)
				}
			}
			if dyad.Top(a) != dyad.Top(x) || dyad.Sign(a) != dyad.Sign(x) || !dyad.Same(a, x) {
				t.Fatalf("Top, Sign or Same of %v, %v: not alike", a, x)
			}
		}
	}
}

// TestFar asks exponents beyond what is read, up to where nothing is promised.
func TestFar(t *testing.T) { // P4.1, P4.2
	for _, d := range []int{-far, -far + 1, -123457, -api.MaxE - 1, api.MaxE + 1, 100003, far - 1, far} {
		for _, e := range []int{-far, -api.MaxE, 0, 7, far} {
			for _, m := range []int64{5, -12, 0} {
				x, y := small(m, d), small(-3, e)
				a, b := meant(x), meant(y)
				want(t, "Add", dyad.Add(x, y), sum(a, b))
				want(t, "Sub", dyad.Sub(x, y), sum(a, other(b)))
				want(t, "Sub", dyad.Sub(y, x), sum(b, other(a)))
				want(t, "Mul", dyad.Mul(x, y), product(a, b))
				if dyad.Cmp(x, y) != order(a, b) || dyad.Cmp(y, x) != order(b, a) || dyad.Same(x, y) != (order(a, b) == 0) {
					t.Fatalf("Cmp(%v, %v): %d", x, y, dyad.Cmp(x, y))
				}
			}
		}
		x := small(6, d)
		want(t, "Neg", dyad.Neg(x), newNumber(big.NewInt(-6), d))
		want(t, "Abs", dyad.Abs(x), newNumber(big.NewInt(6), d))
		want(t, "Scale", dyad.Scale(x, math.MaxInt), newNumber(big.NewInt(6), d+api.MaxE))
		want(t, "Pow", dyad.Pow(x, 64), newNumber(new(big.Int).Exp(big.NewInt(6), big.NewInt(64), nil), 64*d))
		if dyad.Top(x) != d+2 || dyad.Sign(x) != 1 || dyad.Is(small(3, d)) {
			t.Fatalf("Top, Sign or Is of %v: %d, %d", x, dyad.Top(x), dyad.Sign(x))
		}
	}
}

// TestManyNoughts has sums and Ms with more noughts below than whole shifts at
// once.
func TestManyNoughts(t *testing.T) { // P4.1, P4.2
	for _, n := range []uint{99999, 100000, 100001, 100032, 777777, far} {
		high := newNumber(big.NewInt(1), int(n))
		x := dyad.Add(dyadOf(high), dyad.Of(1))
		want(t, "Add", x, sum(high, newNumber(big.NewInt(1), 0)))
		want(t, "Sub", dyad.Sub(x, dyad.Of(1)), high)
		want(t, "Sub", dyad.Sub(dyad.Of(1), x), other(high))
		long := dyadOf(number{new(big.Int).Lsh(big.NewInt(5), n), 0})
		for _, e := range []int{0, 3, -far, -api.MaxE} {
			long.E = e
			want(t, "Neg", dyad.Neg(long), newNumber(big.NewInt(-5), e+int(n)))
			want(t, "Add", dyad.Add(long, dyad.Of(-1)), sum(meant(long), newNumber(big.NewInt(-1), 0)))
			want(t, "Pow", dyad.Pow(long, 3), newNumber(big.NewInt(125), 3*(e+int(n))))
			if dyad.Top(long) != e+int(n)+2 || !dyad.Same(long, dyad.Neg(dyad.Neg(long))) {
				t.Fatalf("Top or Same of 5 with %d noughts below, %d: %d", n, e, dyad.Top(long))
			}
			if e >= -api.MaxE {
				want(t, "Make", dyad.Make(long.M, e), meant(long))
			}
		}
	}
}

// beyond: exponents of which nothing is promised.
var beyond = []int{far + 1, -far - 1, 1 << 30, -1 << 31, 1 << 40, math.MaxInt, math.MaxInt - 1, math.MinInt, math.MinInt + 1}

// TestBeyond sees that all calls come back, with what is well written, however
// far an exponent lies; 0 is 0 with whatever exponent.
func TestBeyond(t *testing.T) { // P4.1
	for _, d := range beyond {
		for _, e := range append([]int{0, far}, beyond...) {
			for _, m := range []int64{1, -6, 0} {
				x, y := small(3, d), small(m, e)
				for i, a := range append(answers(x, y), answers(y, x)...) {
					low := len(a.M.Mag) > 0 && a.M.Mag[0]%2 == 0
					if low || len(a.M.Mag) == 0 && (a.E != 0 || a.M.Neg) {
						t.Fatalf("answer %d to %v, %v: not as it is written", i, x, y)
					}
				}
				_, _, _ = dyad.Top(x), dyad.Same(x, y), dyad.Is(x)
				if s := dyad.Cmp(x, y); s != -dyad.Cmp(y, x) || m < 1 && s != 1 || dyad.Sign(x) != 1 {
					t.Fatalf("Cmp(%v, %v): %d", x, y, s)
				}
			}
		}
	}
}

// TestNought asks 0 with whatever exponent and sign.
func TestNought(t *testing.T) { // P4.1
	for _, e := range append(slices.Clone(exponents), append(beyond, far, -far)...) {
		for i := range 6 {
			zero := api.Dyad{M: api.Int{Neg: i%2 > 0, Mag: make([]uint32, i/2)}, E: e}
			none := meant(api.Dyad{})
			for _, x := range []api.Dyad{small(3, 5), small(-1, -far), small(7, far), {E: 9}} {
				want(t, "Add", dyad.Add(zero, x), meant(x))
				want(t, "Add", dyad.Add(x, zero), meant(x))
				want(t, "Sub", dyad.Sub(x, zero), meant(x))
				want(t, "Sub", dyad.Sub(zero, x), other(meant(x)))
				want(t, "Mul", dyad.Mul(x, zero), none)
				want(t, "Mul", dyad.Mul(zero, x), none)
				if s := dyad.Sign(x); dyad.Cmp(x, zero) != s || dyad.Cmp(zero, x) != -s || dyad.Same(x, zero) != (s == 0) {
					t.Fatalf("Cmp(%v, %v): %d", x, zero, dyad.Cmp(x, zero))
				}
			}
			want(t, "Neg", dyad.Neg(zero), none)
			want(t, "Abs", dyad.Abs(zero), none)
			want(t, "Scale", dyad.Scale(zero, 5), none)
			want(t, "Make", dyad.Make(zero.M, e), none)
			want(t, "Pow", dyad.Pow(zero, 0), newNumber(big.NewInt(1), 0))
			want(t, "Pow", dyad.Pow(zero, 1), none)
			want(t, "Pow", dyad.Pow(zero, math.MaxInt), none)
			if dyad.Top(zero) != 0 || dyad.Sign(zero) != 0 {
				t.Fatalf("Top or Sign of %v: %d, %d", zero, dyad.Top(zero), dyad.Sign(zero))
			}
		}
	}
}

// answers: all numbers that the calls answer to x and y.
func answers(x, y api.Dyad) []api.Dyad {
	return []api.Dyad{dyad.Add(x, y), dyad.Sub(x, y), dyad.Mul(x, y), dyad.Neg(x), dyad.Abs(x), dyad.Scale(x, 0), dyad.Scale(x, 37),
		dyad.Pow(x, 0), dyad.Pow(x, 1), dyad.Pow(x, 3)}
}

// roomy: a copy of x that has spare room, which is written full.
func roomy(x api.Dyad) api.Dyad {
	mag := append(slices.Clone(x.M.Mag), 77, 78, 79)
	return api.Dyad{M: api.Int{Neg: x.M.Neg, Mag: mag[:len(x.M.Mag)]}, E: x.E}
}

// full: what lies in such a copy, its spare room too.
func full(x api.Dyad) []uint32 { return slices.Clone(x.M.Mag[:len(x.M.Mag)+3]) }

// memory writes over each answer, its spare room too, and sees whether an
// argument or another answer is touched.
func memory(t *testing.T, x, y api.Dyad) {
	t.Helper()
	x, y = roomy(x), roomy(y)
	wasX, wasY := full(x), full(y)
	all := func() []api.Dyad {
		_, _, _, _ = dyad.Cmp(x, y), dyad.Same(x, y), dyad.Top(x), dyad.Is(x)
		return append(answers(x, y), dyad.Make(x.M, 5), dyad.Of(-5), dyad.Of(8))
	}
	first, second := all(), all()
	kept := make([]api.Dyad, len(first))
	for i, a := range first {
		kept[i] = api.Dyad{M: api.Int{Neg: a.M.Neg, Mag: slices.Clone(a.M.Mag)}, E: a.E}
	}
	for i := range first {
		mag := first[i].M.Mag[:cap(first[i].M.Mag)]
		for j := range mag {
			mag[j] = 4711
		}
		if !slices.Equal(full(x), wasX) || !slices.Equal(full(y), wasY) {
			t.Fatalf("answer %d to %v, %v shares memory with them", i, x, y)
		}
		if !slices.EqualFunc(first[i+1:], kept[i+1:], equal) {
			t.Fatalf("answer %d to %v, %v shares memory with another one", i, x, y)
		}
	}
	if !slices.EqualFunc(second, kept, equal) {
		t.Fatalf("answers to %v, %v: %v, then %v", x, y, kept, second)
	}
}

func TestMemory(t *testing.T) { // P4.1: with what holds everywhere
	for _, m := range mags {
		for _, n := range mags {
			for _, e := range []int{0, -32, 33} {
				memory(t, api.Dyad{M: api.Int{Mag: m}, E: e}, api.Dyad{M: api.Int{Neg: true, Mag: n}})
			}
		}
	}
	r := rand.New(rand.NewSource(46))
	for range 500 {
		x := some(r, 6, 100)
		memory(t, x, some(r, 6, 100))
		memory(t, x, x)
	}
}
