package whole_test

import (
	"encoding/binary"
	"math"
	"math/big"
	"math/rand"
	"slices"
	"testing"

	"annulus/api"
	"annulus/whole"
)

// The tests reckon with math/big and hold whole against it.

const top = math.MaxUint32

// mags: at the edges: nothing, noughts only, noughts on top, full limbs, a
// single bit on either side of a limb's border.
var mags = [][]uint32{
	nil, {}, {0}, {0, 0, 0},
	{1}, {1, 0}, {1, 0, 0}, {2}, {3}, {4}, {7}, {8, 0}, {9},
	{top}, {top, 0}, {0, 1}, {1, 1}, {0, 1, 0}, {1 << 31}, {0, 1 << 31}, {top, 1<<31 - 1}, {1, 1 << 31}, {top, top}, {top - 1, top},
	{0, 0, 1}, {1, 0, 1}, {0, 0, 1, 0, 0}, {top, top, top}, {0, top, 0, top},
}

// edges: each of mags with either sign, 0 too.
func edges() []api.Int {
	var out []api.Int
	for _, m := range mags {
		out = append(out, api.Int{Mag: m}, api.Int{Neg: true, Mag: m})
	}
	return out
}

// number tells a as a number of the library's.
func number(a api.Int) *big.Int {
	var text []byte
	for _, x := range slices.Backward(a.Mag) {
		text = binary.BigEndian.AppendUint32(text, x)
	}
	n := new(big.Int).SetBytes(text)
	if a.Neg {
		n.Neg(n)
	}
	return n
}

// written tells such a number as an Int, as it is meant.
func written(n *big.Int) api.Int {
	mag := make([]uint32, (n.BitLen()+31)/32)
	text := n.FillBytes(make([]byte, 4*len(mag)))
	for i := range mag {
		mag[len(mag)-1-i] = binary.BigEndian.Uint32(text[4*i:])
	}
	return api.Int{Neg: n.Sign() < 0, Mag: mag}
}

// equal: both are written alike.
func equal(a, b api.Int) bool { return a.Neg == b.Neg && slices.Equal(a.Mag, b.Mag) }

// some: a number of up to most limbs, of which many are at a limb's edges.
func some(r *rand.Rand, most int) api.Int {
	mag := make([]uint32, r.Intn(most+1))
	for i := range mag {
		mag[i] = []uint32{0, 1, top, top - 1, 1 << 31, 1<<31 - 1, r.Uint32(), r.Uint32()}[r.Intn(8)]
	}
	return api.Int{Neg: r.Intn(2) > 0, Mag: mag}
}

// want fails unless got is just the number, and written as it is meant.
func want(t *testing.T, what string, got api.Int, n *big.Int) {
	t.Helper()
	if !equal(got, written(n)) {
		t.Fatalf("%s: %v, want %v", what, got, written(n))
	}
}

// pairs calls f with all pairs of edges and with pairs by chance.
func pairs(f func(a, b api.Int)) {
	for _, a := range edges() {
		for _, b := range edges() {
			f(a, b)
		}
	}
	r := rand.New(rand.NewSource(21))
	for range 4000 {
		f(some(r, 9), some(r, 5))
	}
}

func singles(f func(a api.Int)) {
	for _, a := range edges() {
		f(a)
	}
	r := rand.New(rand.NewSource(22))
	for range 4000 {
		f(some(r, 9))
	}
}

func TestIs(t *testing.T) { // P2.1
	for _, c := range []struct {
		a  api.Int
		is bool
	}{
		{api.Int{}, true},
		{api.Int{Mag: []uint32{}}, true},
		{api.Int{Neg: true}, false},
		{api.Int{Neg: true, Mag: []uint32{}}, false},
		{api.Int{Mag: []uint32{0}}, false},
		{api.Int{Neg: true, Mag: []uint32{0}}, false},
		{api.Int{Mag: []uint32{5}}, true},
		{api.Int{Neg: true, Mag: []uint32{5}}, true},
		{api.Int{Mag: []uint32{5, 0}}, false},
		{api.Int{Neg: true, Mag: []uint32{5, 0}}, false},
		{api.Int{Neg: true, Mag: []uint32{0, 5}}, true},
	} {
		if whole.Is(c.a) != c.is {
			t.Errorf("Is(%v): %v", c.a, !c.is)
		}
	}
	singles(func(a api.Int) {
		if whole.Is(a) != equal(a, written(number(a))) {
			t.Fatalf("Is(%v): %v", a, whole.Is(a))
		}
	})
}

func TestNorm(t *testing.T) { // P2.1
	singles(func(a api.Int) {
		want(t, "Norm", whole.Norm(a), number(a))
		if !whole.Is(whole.Norm(a)) {
			t.Fatalf("Is(Norm(%v)): false", a)
		}
	})
}

func TestSignAndNeg(t *testing.T) { // P2.1
	singles(func(a api.Int) {
		if got := whole.Sign(a); got != number(a).Sign() {
			t.Fatalf("Sign(%v): %d", a, got)
		}
		want(t, "Neg", whole.Neg(a), new(big.Int).Neg(number(a)))
	})
}

func TestCmp(t *testing.T) { // P2.1
	pairs(func(a, b api.Int) {
		if got := whole.Cmp(a, b); got != number(a).Cmp(number(b)) {
			t.Fatalf("Cmp(%v, %v): %d", a, b, got)
		}
	})
}

func TestSumsAndProducts(t *testing.T) { // P2.1
	pairs(func(a, b api.Int) {
		x, y := number(a), number(b)
		want(t, "Add", whole.Add(a, b), new(big.Int).Add(x, y))
		want(t, "Add", whole.Add(b, a), new(big.Int).Add(x, y))
		want(t, "Sub", whole.Sub(a, b), new(big.Int).Sub(x, y))
		want(t, "Sub", whole.Sub(b, a), new(big.Int).Sub(y, x))
		want(t, "Mul", whole.Mul(a, b), new(big.Int).Mul(x, y))
		want(t, "Mul", whole.Mul(b, a), new(big.Int).Mul(x, y))
	})
}

// TestSameNumber hands one number in twice, and its other side.
func TestSameNumber(t *testing.T) { // P2.1
	singles(func(a api.Int) {
		x, other := number(a), api.Int{Neg: !a.Neg, Mag: a.Mag}
		want(t, "Sub", whole.Sub(a, a), new(big.Int))
		want(t, "Add", whole.Add(a, other), new(big.Int))
		want(t, "Add", whole.Add(a, a), new(big.Int).Lsh(x, 1))
		want(t, "Sub", whole.Sub(a, other), new(big.Int).Lsh(x, 1))
		want(t, "Mul", whole.Mul(a, a), new(big.Int).Mul(x, x))
		if whole.Cmp(a, a) != 0 {
			t.Fatalf("Cmp(%v, it): %d", a, whole.Cmp(a, a))
		}
		divides(t, a, a)
		divides(t, a, other)
	})
}

// floor tells the floor of x by y and the rest, by the library's reckoning
// towards 0.
func floor(x, y *big.Int) (*big.Int, *big.Int) {
	quotient, rest := new(big.Int).QuoRem(x, y, new(big.Int))
	if rest.Sign() != 0 && rest.Sign() != y.Sign() {
		quotient.Sub(quotient, big.NewInt(1))
		rest.Add(rest, y)
	}
	return quotient, rest
}

// divides holds Div of a and b against math/big, and sees that the rest is
// never of the other sign.
func divides(t *testing.T, a, b api.Int) {
	t.Helper()
	x, y := number(a), number(b)
	quotient, rest, ok := whole.Div(a, b)
	if y.Sign() == 0 {
		if ok || quotient.Neg || rest.Neg || len(quotient.Mag) != 0 || len(rest.Mag) != 0 {
			t.Fatalf("Div(%v, %v), by 0: %v, %v, %v", a, b, quotient, rest, ok)
		}
		return
	}
	if !ok {
		t.Fatalf("Div(%v, %v): false", a, b)
	}
	q, r := floor(x, y)
	want(t, "quotient", quotient, q)
	want(t, "rest", rest, r)
	if s := number(rest).Sign(); s != 0 && s != y.Sign() {
		t.Fatalf("Div(%v, %v): the rest is %v", a, b, rest)
	}
	if number(rest).CmpAbs(y) >= 0 {
		t.Fatalf("Div(%v, %v): the rest is %v, no less than what it is divided by", a, b, rest)
	}
	back := new(big.Int).Mul(number(quotient), y)
	if back.Add(back, number(rest)).Cmp(x) != 0 {
		t.Fatalf("Div(%v, %v): %v, %v don't come to it", a, b, quotient, rest)
	}
}

func TestDiv(t *testing.T) { // P2.1, P2.2
	pairs(func(a, b api.Int) { divides(t, a, b) })
}

// TestDivSigns has floors and rests of both signs, written out.
func TestDivSigns(t *testing.T) { // P2.1, P2.2
	for _, c := range [][4]int64{
		{7, 2, 3, 1}, {-7, 2, -4, 1}, {7, -2, -4, -1}, {-7, -2, 3, -1},
		{6, 2, 3, 0}, {-6, 2, -3, 0}, {6, -2, -3, 0}, {-6, -2, 3, 0},
		{1, 5, 0, 1}, {-1, 5, -1, 4}, {1, -5, -1, -4}, {-1, -5, 0, -1},
		{0, 5, 0, 0}, {0, -5, 0, 0}, {5, 1, 5, 0}, {5, -1, -5, 0}, {-5, 1, -5, 0}, {-5, -1, 5, 0},
		{math.MinInt64, 2, math.MinInt64 / 2, 0}, {math.MinInt64, 3, -3074457345618258603, 1},
		{math.MaxInt64, math.MinInt64, -1, -1}, {math.MinInt64, math.MaxInt64, -2, math.MaxInt64 - 1},
	} {
		quotient, rest, ok := whole.Div(whole.Of(c[0]), whole.Of(c[1]))
		if !ok {
			t.Fatalf("Div(%d, %d): false", c[0], c[1])
		}
		want(t, "quotient", quotient, big.NewInt(c[2]))
		want(t, "rest", rest, big.NewInt(c[3]))
	}
}

// TestDivBeside asks multiples, and one less and one more than they are.
func TestDivBeside(t *testing.T) { // P2.1, P2.2
	one := api.Int{Mag: []uint32{1}}
	r := rand.New(rand.NewSource(23))
	for range 4000 {
		a, b := some(r, 5), some(r, 5)
		product := whole.Mul(a, b)
		divides(t, product, b)
		divides(t, whole.Add(product, one), b)
		divides(t, whole.Sub(product, one), b)
	}
}

// shifts: where a limb's border is passed, and beyond both ends that are held.
var shifts = []int{0, 1, 2, 31, 32, 33, 63, 64, 65, 96, 1000, 99999, 100000, 100001, 100032, 1 << 20, math.MaxInt, -1, -32, -100000, math.MinInt}

// shifted holds Shl and Shr of a by n against math/big, whose Rsh is the floor.
func shifted(t *testing.T, a api.Int, n int) {
	t.Helper()
	x, held := number(a), uint(min(max(n, 0), 100000))
	want(t, "Shl", whole.Shl(a, n), new(big.Int).Lsh(x, held))
	want(t, "Shr", whole.Shr(a, n), new(big.Int).Rsh(x, held))
}

func TestShifts(t *testing.T) { // P2.1
	for _, a := range edges() {
		for _, n := range shifts {
			shifted(t, a, n)
		}
	}
	r := rand.New(rand.NewSource(24))
	for range 4000 {
		shifted(t, some(r, 8), r.Intn(300)-20)
	}
}

// TestShiftsOfLong has numbers of which bits are left where the shift is held,
// and of which only noughts, or one bit above them, fall out.
func TestShiftsOfLong(t *testing.T) { // P2.1
	one := big.NewInt(1)
	for _, low := range []uint{0, 1, 31, 32, 99998, 99999, 100000, 100001} {
		for _, s := range []int64{1, -1} {
			x := new(big.Int).Lsh(one, 100003)
			x.Add(x, new(big.Int).Lsh(one, low)).Mul(x, big.NewInt(s))
			for _, n := range shifts {
				shifted(t, written(x), n)
			}
			for n := int(low) - 1; n < int(low)+2; n++ {
				shifted(t, written(x), n)
			}
		}
	}
}

func TestShrOfLess(t *testing.T) { // P2.1: the floor, not what lies nearer to 0
	for _, c := range []struct {
		a    int64
		n    int
		want int64
	}{{-7, 1, -4}, {-8, 1, -4}, {-8, 3, -1}, {-8, 4, -1}, {-9, 3, -2}, {-1, 0, -1}, {-1, 1, -1}, {-1, math.MaxInt, -1}, {-1, math.MinInt, -1}, {7, 1, 3}, {7, 3, 0}, {0, 5, 0}} {
		want(t, "Shr", whole.Shr(whole.Of(c.a), c.n), big.NewInt(c.want))
	}
}

// int64s: at the edges of an int64 and of a limb.
var int64s = []int64{0, 1, -1, 2, -2, 12, -12, math.MaxInt32, math.MinInt32, top, -top, top + 1, -top - 1, top + 2, math.MaxInt64, math.MaxInt64 - 1, math.MinInt64, math.MinInt64 + 1}

func TestOfAndSmall(t *testing.T) { // P2.1
	check := func(n int64) {
		t.Helper()
		a := whole.Of(n)
		want(t, "Of", a, big.NewInt(n))
		a.Mag = append(a.Mag, 0, 0)
		for _, a := range []api.Int{a, whole.Of(n)} {
			if got, ok := whole.Small(a); got != n || !ok {
				t.Fatalf("Small(%v): %d, %v", a, got, ok)
			}
		}
	}
	for _, n := range int64s {
		check(n)
	}
	r := rand.New(rand.NewSource(25))
	for range 2000 {
		check(int64(r.Uint64()) >> r.Intn(64))
	}
	if got, ok := whole.Small(api.Int{Neg: true, Mag: []uint32{0}}); got != 0 || !ok {
		t.Errorf("Small of 0 with a sign: %d, %v", got, ok)
	}
}

func TestSmallBeyond(t *testing.T) { // P2.1
	for _, a := range []api.Int{
		{Mag: []uint32{0, 1 << 31}},            // one more than the greatest
		{Neg: true, Mag: []uint32{1, 1 << 31}}, // one less than the least
		{Mag: []uint32{1, 1 << 31}},
		{Mag: []uint32{top, top}},
		{Neg: true, Mag: []uint32{top, top}},
		{Mag: []uint32{0, 1 << 31, 0, 0}},
		{Mag: []uint32{0, 0, 1}},
		{Neg: true, Mag: []uint32{0, 0, 1}},
		{Mag: []uint32{5, 0, 1}},
		{Neg: true, Mag: []uint32{5, 0, 0, 1}},
	} {
		if got, ok := whole.Small(a); got != 0 || ok {
			t.Errorf("Small(%v): %d, %v", a, got, ok)
		}
	}
	singles(func(a api.Int) {
		got, ok := whole.Small(a)
		if x := number(a); ok != x.IsInt64() || ok && got != x.Int64() || !ok && got != 0 {
			t.Fatalf("Small(%v): %d, %v", a, got, ok)
		}
	})
}

// answers: all numbers that the calls answer to a and b.
func answers(a, b api.Int) []api.Int {
	quotient, rest, _ := whole.Div(a, b)
	return []api.Int{whole.Norm(a), whole.Add(a, b), whole.Sub(a, b), whole.Mul(a, b), whole.Neg(a), quotient, rest,
		whole.Shl(a, 0), whole.Shl(a, 37), whole.Shr(a, 0), whole.Shr(a, 37), whole.Of(-5)}
}

// roomy: a copy of a that has spare room, which is written full.
func roomy(a api.Int) api.Int {
	mag := append(slices.Clone(a.Mag), 77, 78, 79)
	return api.Int{Neg: a.Neg, Mag: mag[:len(a.Mag)]}
}

// full: what lies in such a copy, its spare room too.
func full(a api.Int) []uint32 { return slices.Clone(a.Mag[:len(a.Mag)+3]) }

// memory writes over each answer, its spare room too, and sees whether an
// argument or another answer is touched.
func memory(t *testing.T, a, b api.Int) {
	t.Helper()
	a, b = roomy(a), roomy(b)
	wasA, wasB := full(a), full(b)
	first, second := answers(a, b), answers(a, b)
	kept := make([]api.Int, len(first))
	for i := range first {
		kept[i] = api.Int{Neg: first[i].Neg, Mag: slices.Clone(first[i].Mag)}
	}
	for i := range first {
		mag := first[i].Mag[:cap(first[i].Mag)]
		for j := range mag {
			mag[j] = 4711
		}
		if !slices.Equal(full(a), wasA) || !slices.Equal(full(b), wasB) {
			t.Fatalf("answer %d to %v, %v shares memory with them", i, a, b)
		}
		if !slices.EqualFunc(first[i+1:], kept[i+1:], equal) {
			t.Fatalf("answer %d to %v, %v shares memory with another one", i, a, b)
		}
	}
	if !slices.EqualFunc(second, kept, equal) {
		t.Fatalf("answers to %v, %v: %v, then %v", a, b, kept, second)
	}
}

func TestMemory(t *testing.T) { // P2.1: with what holds everywhere
	for _, a := range edges() {
		for _, b := range edges() {
			memory(t, a, b)
		}
	}
	r := rand.New(rand.NewSource(26))
	for range 500 {
		a := some(r, 9)
		memory(t, a, some(r, 6))
		memory(t, a, a)
	}
}
