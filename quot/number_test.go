package quot_test

import (
	"encoding/binary"
	"fmt"
	"math"
	"math/big"
	"math/rand"
	"slices"
	"testing"

	"annulus/api"
)

// The tests reckon with math/big and hold quot against it.

const (
	top = math.MaxUint32
	far = 2000000 // beyond it dyad promises nothing of an argument's exponent
)

// downs: modes that count as Down.
var downs = []int{api.Down, api.Near, 3, -1, math.MaxInt, math.MinInt}

// modes: Up, and all that count as Down.
var modes = append([]int{api.Up}, downs...)

// mags: at the edges: nothing, noughts only, noughts on top, squares and beside
// them, even ones, full limbs, a single bit on either side of a limb's border.
var mags = [][]uint32{
	nil, {0, 0},
	{1}, {1, 0, 0}, {2}, {3}, {4, 0}, {5}, {6}, {7}, {8}, {9}, {12}, {1 << 31}, {3 << 30}, {1<<31 - 1},
	{top}, {top, 0}, {top - 1}, {0, 1}, {0, 1, 0}, {1, 1}, {0, 1 << 31}, {1, 1 << 31}, {1, top - 1}, {0, top - 1}, {top, top},
	{0, 0, 1}, {1, 0, 1}, {0, 1 << 31, 5}, {0, 0, 9, 0, 0}, {top, top, top}, {0, 0, 0, 1}, {1, 0, 0, 1}, {top, top, top, top}, {0, 0, top - 1, top}, {1, 0, top - 1, top},
}

// edges: each of mags with either sign, 0 too.
func edges() []api.Int {
	var out []api.Int
	for _, m := range mags {
		out = append(out, api.Int{Mag: m}, api.Int{Neg: true, Mag: m})
	}
	return out
}

// integer tells a as a number of the library's.
func integer(a api.Int) *big.Int {
	var text []byte
	for _, x := range slices.Backward(a.Mag) {
		text = binary.BigEndian.AppendUint32(text, x)
	}
	n := new(big.Int).SetBytes(text)
	if a.Neg {
		n.Neg(n)
	}
	return n
}

// number: m times 2 to the power of e; m is odd, or both are 0.
type number struct {
	m *big.Int
	e int
}

// newNumber tells m times 2 to the power of e so.
func newNumber(m *big.Int, e int) number {
	if m.Sign() == 0 {
		return number{new(big.Int), 0}
	}
	low := m.TrailingZeroBits()
	return number{new(big.Int).Rsh(m, low), e + int(low)}
}

// meant: the number that x is.
func meant(x api.Dyad) number { return newNumber(integer(x.M), x.E) }

// held: n, or the one of a and b that it lies beyond.
func held(n, a, b int) int { return min(max(n, a), b) }

// shifted: m times 2 to the power of n, 0 of n below 0.
func shifted(m *big.Int, n int) *big.Int { return new(big.Int).Lsh(m, uint(max(n, 0))) }

// atop: the topmost bit's place of a by b, both above 0.
func atop(a, b *big.Int) int {
	t := a.BitLen() - b.BitLen()
	if shifted(a, -t).Cmp(shifted(b, t)) < 0 {
		t--
	}
	return t
}

// unit: the exponent that To hands to Grid, as that holds it.
func unit(t, p int) int { return held(t-held(p, 1, api.MaxBits)+1, -api.MaxE, api.MaxE) }

// divided: what Div is to tell of x and y, neither of them 0.
func divided(x, y number, p, mode int) number {
	a, b, n := new(big.Int).Abs(x.m), new(big.Int).Abs(y.m), x.e-y.e
	e := unit(atop(a, b)+n, p)
	n -= e
	quotient, rest := new(big.Int).QuoRem(shifted(a, n), shifted(b, -n), new(big.Int))
	negative := x.m.Sign() != y.m.Sign()
	if rest.Sign() != 0 && negative != (mode == api.Up) {
		quotient.Add(quotient, big.NewInt(1))
	}
	if negative {
		quotient.Neg(quotient)
	}
	return newNumber(quotient, e)
}

// rooted: what Root is to tell of x, which is above 0.
func rooted(x number, p, mode int) number {
	t := x.m.BitLen() - 1 + x.e
	if t%2 != 0 {
		t-- // the floor of half of it, below 0 too
	}
	e := unit(t/2, p)
	n := x.e - 2*e
	whole := new(big.Int).Rsh(shifted(x.m, n), uint(max(-n, 0)))
	root := whole.Sqrt(whole)
	square := new(big.Int).Mul(root, root)
	if mode == api.Up && shifted(square, -n).Cmp(shifted(x.m, n)) != 0 {
		root.Add(root, big.NewInt(1))
	}
	return newNumber(root, e)
}

// dyadOf tells x as a Dyad as it is written.
func dyadOf(x number) api.Dyad {
	mag := make([]uint32, (x.m.BitLen()+31)/32)
	text := x.m.FillBytes(make([]byte, 4*len(mag)))
	for i := range mag {
		mag[len(mag)-1-i] = binary.BigEndian.Uint32(text[4*i:])
	}
	return api.Dyad{M: api.Int{Neg: x.m.Sign() < 0, Mag: mag}, E: x.e}
}

// small: the Dyad m times 2 to the power of e.
func small(m int64, e int) api.Dyad { return dyadOf(newNumber(big.NewInt(m), e)) }

// equal: both are written alike.
func equal(x, y api.Dyad) bool {
	return x.E == y.E && x.M.Neg == y.M.Neg && slices.Equal(x.M.Mag, y.M.Mag)
}

// told: a number, cut short where it is long.
func told(x api.Dyad) any {
	if len(x.M.Mag) > 50 {
		return []any{"long", x.M.Neg, len(x.M.Mag), x.M.Mag[len(x.M.Mag)-9:], x.E}
	}
	return x
}

// call: how such a call is written.
func call(name string, p, mode int, args ...api.Dyad) string {
	for _, x := range args {
		name += fmt.Sprint(" ", told(x))
	}
	return fmt.Sprint(name, ", ", p, " bits, mode ", mode)
}

// want fails unless got is just the number, as it is written, and no error is
// told.
func want(t *testing.T, what func() string, got api.Dyad, e api.Errno, n number) {
	t.Helper()
	if e != api.OK || !equal(got, dyadOf(n)) {
		t.Fatalf("%s: %v, %v, want %v", what(), told(got), e, told(dyadOf(n)))
	}
}

// refused fails unless there is just that error, beside 0.
func refused(t *testing.T, what func() string, got api.Dyad, e, wanted api.Errno) {
	t.Helper()
	if e != wanted || !equal(got, api.Dyad{}) {
		t.Fatalf("%s: %v, %v, want %v", what(), told(got), e, wanted)
	}
}

// some: a number by chance, often even, with noughts on top, at a limb's edges.
func some(r *rand.Rand, limbs, span int) api.Dyad {
	mag := make([]uint32, r.Intn(limbs+1))
	for i := range mag {
		mag[i] = []uint32{0, 0, 1, top, 1 << 31, r.Uint32(), r.Uint32() << r.Intn(32)}[r.Intn(7)]
	}
	return api.Dyad{M: api.Int{Neg: r.Intn(2) > 0, Mag: mag}, E: r.Intn(2*span+1) - span}
}

// singles calls f with the edges, at some exponents, and with numbers by chance.
func singles(f func(x api.Dyad)) {
	for _, m := range edges() {
		for _, e := range []int{0, 1, -1, -31, 33, -64, api.MaxE, -api.MaxE, api.MaxE + 1, -api.MaxE - 1} {
			f(api.Dyad{M: m, E: e})
		}
	}
	r := rand.New(rand.NewSource(61))
	for range 2000 {
		f(some(r, 9, 200))
		f(some(r, 9, api.MaxE+50))
	}
}

// pairs calls f with all pairs of the edges and with pairs by chance.
func pairs(f func(x, y api.Dyad)) {
	for i, a := range edges() {
		for j, b := range edges() {
			f(api.Dyad{M: a, E: 3 - i%5}, api.Dyad{M: b, E: j % 3})
		}
	}
	r := rand.New(rand.NewSource(62))
	for range 3000 {
		f(some(r, 9, 200), some(r, 5, 200))
		f(some(r, 4, 200), some(r, 9, api.MaxE+50))
	}
}
