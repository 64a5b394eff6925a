package round_test

import (
	"encoding/binary"
	"math"
	"math/big"
	"math/rand"
	"slices"
	"testing"

	"annulus/api"
)

// The tests reckon with math/big and hold round against it.

const (
	top = math.MaxUint32
	far = 2000000 // beyond it dyad promises nothing of an argument's exponent
)

// others: modes that count as Near.
var others = []int{api.Near, 3, -1, 100, math.MaxInt, math.MinInt}

// modes: Down, Up, and all that count as Near.
var modes = append([]int{api.Down, api.Up}, others...)

// mags: at the edges: nothing, noughts only, noughts on top, even ones, halves,
// full limbs, a single bit on either side of a limb's border.
var mags = [][]uint32{
	nil, {}, {0}, {0, 0, 0},
	{1}, {1, 0, 0}, {2}, {3}, {4, 0}, {5}, {6}, {7}, {9}, {11}, {12}, {13}, {1 << 31}, {3 << 30}, {1<<31 + 1}, {1<<31 - 1},
	{top}, {top, 0}, {top - 1}, {0, 1}, {0, 1, 0}, {1, 1}, {0, 1 << 31}, {1 << 31, 1}, {1 << 31, 2}, {1<<31 + 1, 2}, {1<<31 - 1, 2}, {top, top},
	{0, 0, 1}, {1, 0, 1}, {0, 1 << 31, 4}, {0, 1 << 31, 5}, {1, 1 << 31, 4}, {0, 0, 3, 0, 0}, {0, 1 << 31, top}, {top, top, top},
}

// edges: each of mags with either sign, 0 too.
func edges() []api.Int {
	var out []api.Int
	for _, m := range mags {
		out = append(out, api.Int{Mag: m}, api.Int{Neg: true, Mag: m})
	}
	return out
}

// integer tells a as a number of the library's.
func integer(a api.Int) *big.Int {
	var text []byte
	for _, x := range slices.Backward(a.Mag) {
		text = binary.BigEndian.AppendUint32(text, x)
	}
	n := new(big.Int).SetBytes(text)
	if a.Neg {
		n.Neg(n)
	}
	return n
}

// number: m times 2 to the power of e; m is odd, or both are 0.
type number struct {
	m *big.Int
	e int
}

// newNumber tells m times 2 to the power of e so.
func newNumber(m *big.Int, e int) number {
	if m.Sign() == 0 {
		return number{new(big.Int), 0}
	}
	low := m.TrailingZeroBits()
	return number{new(big.Int).Rsh(m, low), e + int(low)}
}

// meant: the number that x is.
func meant(x api.Dyad) number { return newNumber(integer(x.M), x.E) }

// held: n, or the one of a and b that it lies beyond.
func held(n, a, b int) int { return min(max(n, a), b) }

// floor: the greatest whole number whose multiple of 2 to the power of e isn't
// more than x. (The library's Rsh is the floor.)
func floor(x number, e int) *big.Int {
	if x.e >= e {
		return new(big.Int).Lsh(x.m, uint(x.e-e))
	}
	return new(big.Int).Rsh(x.m, uint(e-x.e))
}

// nearest: the floor of x and a half, or one less, where x lies just in the
// middle and that is odd.
func nearest(x number, e int) *big.Int {
	twice := floor(newNumber(x.m, x.e+1), e)
	if x.e == e-1 && twice.Bit(1) == 0 {
		return twice.Rsh(twice, 1)
	}
	return twice.Rsh(twice.Add(twice, big.NewInt(1)), 1)
}

// rounded: what Grid is to tell.
func rounded(x number, e, mode int) number {
	e = held(e, -api.MaxE, api.MaxE)
	switch mode {
	case api.Down:
		return newNumber(floor(x, e), e)
	case api.Up:
		up := floor(number{new(big.Int).Neg(x.m), x.e}, e)
		return newNumber(up.Neg(up), e)
	}
	return newNumber(nearest(x, e), e)
}

// unit: the exponent that To hands to Grid; of 0 whatever.
func unit(x number, p int) int { return x.m.BitLen() + x.e - held(p, 1, api.MaxBits) }

// dyadOf tells x as a Dyad as it is written.
func dyadOf(x number) api.Dyad {
	mag := make([]uint32, (x.m.BitLen()+31)/32)
	text := x.m.FillBytes(make([]byte, 4*len(mag)))
	for i := range mag {
		mag[len(mag)-1-i] = binary.BigEndian.Uint32(text[4*i:])
	}
	return api.Dyad{M: api.Int{Neg: x.m.Sign() < 0, Mag: mag}, E: x.e}
}

// small: the Dyad m times 2 to the power of e, written just so.
func small(m int64, e int) api.Dyad { return dyadOf(number{big.NewInt(m), e}) }

// equal: both are written alike.
func equal(x, y api.Dyad) bool {
	return x.E == y.E && x.M.Neg == y.M.Neg && slices.Equal(x.M.Mag, y.M.Mag)
}

// want fails unless got is just the number, and as it is written.
func want(t *testing.T, what string, x api.Dyad, at, mode int, got api.Dyad, n number) {
	t.Helper()
	if equal(got, dyadOf(n)) {
		return
	}
	if len(x.M.Mag) > 50 {
		t.Fatalf("%s of a long number of exponent %d, %d, mode %d: another one, of exponent %d, want %d", what, x.E, at, mode, got.E, n.e)
	}
	t.Fatalf("%s(%v, %d, mode %d): %v, want %v", what, x, at, mode, got, dyadOf(n))
}

// some: a number by chance, often even, with noughts on top, at a limb's edges.
func some(r *rand.Rand, limbs, span int) api.Dyad {
	mag := make([]uint32, r.Intn(limbs+1))
	for i := range mag {
		mag[i] = []uint32{0, 0, 1, top, 1 << 31, r.Uint32(), r.Uint32() << r.Intn(32)}[r.Intn(7)]
	}
	return api.Dyad{M: api.Int{Neg: r.Intn(2) > 0, Mag: mag}, E: r.Intn(2*span+1) - span}
}

// singles calls f with the edges, at some exponents, and with numbers by chance.
func singles(f func(x api.Dyad)) {
	for _, m := range edges() {
		for _, e := range []int{0, 1, -1, -31, 33, -64, api.MaxE, -api.MaxE, api.MaxE + 1, -api.MaxE - 1} {
			f(api.Dyad{M: m, E: e})
		}
	}
	r := rand.New(rand.NewSource(51))
	for range 2000 {
		f(some(r, 7, 200))
		f(some(r, 7, api.MaxE+50))
	}
}
