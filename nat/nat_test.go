package nat_test

import (
	"encoding/binary"
	"math"
	"math/big"
	"math/rand"
	"slices"
	"testing"

	"annulus/nat"
)

// The tests reckon with math/big and hold nat against it.

const top = math.MaxUint32

// edges: lists at the chapter's edges: nothing, noughts only, noughts on top,
// full limbs, a single bit on either side of a limb's border.
var edges = [][]uint32{
	nil, {}, {0}, {0, 0, 0},
	{1}, {1, 0}, {1, 0, 0}, {2}, {3}, {4}, {7}, {8}, {9}, {15}, {16}, {17},
	{top}, {top, 0}, {0, 1}, {1, 1}, {0, 1, 0}, {1 << 31}, {0, 1 << 31}, {top, top}, {top - 1, top},
	{0, 0, 1}, {1, 0, 1}, {0, 0, 1, 0, 0}, {top, top, top}, {top, 0, top}, {0, top, 0, top},
	{0, 0, 0, 0, 0, 1}, {top, top, top, top, top, top},
}

// number tells limbs as a number of the library's.
func number(a []uint32) *big.Int {
	var text []byte
	for _, x := range slices.Backward(a) {
		text = binary.BigEndian.AppendUint32(text, x)
	}
	return new(big.Int).SetBytes(text)
}

// limbs tells such a number as limbs, no nought on top.
func limbs(n *big.Int) []uint32 {
	a := make([]uint32, (n.BitLen()+31)/32)
	text := n.FillBytes(make([]byte, 4*len(a)))
	for i := range a {
		a[len(a)-1-i] = binary.BigEndian.Uint32(text[4*i:])
	}
	return a
}

// some: a list of up to most limbs, of which many are at a limb's edges.
func some(r *rand.Rand, most int) []uint32 {
	a := make([]uint32, r.Intn(most+1))
	for i := range a {
		a[i] = []uint32{0, 1, top, top - 1, 1 << 31, 1<<31 - 1, r.Uint32(), r.Uint32()}[r.Intn(8)]
	}
	return a
}

// want fails unless got is just the number, with no nought on top.
func want(t *testing.T, what string, got []uint32, n *big.Int) {
	t.Helper()
	if !slices.Equal(got, limbs(n)) {
		t.Fatalf("%s: %v, want %v", what, got, limbs(n))
	}
}

// pairs calls f with all pairs of edges and with pairs by chance.
func pairs(f func(a, b []uint32)) {
	for _, a := range edges {
		for _, b := range edges {
			f(a, b)
		}
	}
	r := rand.New(rand.NewSource(11))
	for range 4000 {
		f(some(r, 12), some(r, 7))
	}
}

func singles(f func(a []uint32)) {
	for _, a := range edges {
		f(a)
	}
	r := rand.New(rand.NewSource(12))
	for range 4000 {
		f(some(r, 12))
	}
}

func TestIsAndTrim(t *testing.T) { // P1.1
	singles(func(a []uint32) {
		if nat.Is(a) != (len(a) == 0 || a[len(a)-1] != 0) {
			t.Fatalf("Is(%v): %v", a, nat.Is(a))
		}
		want(t, "Trim", nat.Trim(a), number(a))
		if !nat.Is(nat.Trim(a)) {
			t.Fatalf("Is(Trim(%v)): false", a)
		}
	})
}

func TestCmp(t *testing.T) { // P1.1
	pairs(func(a, b []uint32) {
		if got := nat.Cmp(a, b); got != number(a).Cmp(number(b)) {
			t.Fatalf("Cmp(%v, %v): %d", a, b, got)
		}
	})
}

func TestAddAndMul(t *testing.T) { // P1.1
	pairs(func(a, b []uint32) {
		x, y := number(a), number(b)
		want(t, "Add", nat.Add(a, b), new(big.Int).Add(x, y))
		want(t, "Add", nat.Add(b, a), new(big.Int).Add(x, y))
		want(t, "Mul", nat.Mul(a, b), new(big.Int).Mul(x, y))
		want(t, "Mul", nat.Mul(b, a), new(big.Int).Mul(x, y))
	})
}

func TestSub(t *testing.T) { // P1.1
	pairs(func(a, b []uint32) {
		x, y := number(a), number(b)
		got, ok := nat.Sub(a, b)
		if x.Cmp(y) < 0 {
			if ok || len(got) != 0 {
				t.Fatalf("Sub(%v, %v), of less: %v, %v", a, b, got, ok)
			}
			return
		}
		if !ok {
			t.Fatalf("Sub(%v, %v): false", a, b)
		}
		want(t, "Sub", got, x.Sub(x, y))
	})
}

// divides holds Div of a and b against math/big.
func divides(t *testing.T, a, b []uint32) {
	t.Helper()
	x, y := number(a), number(b)
	quotient, rest, ok := nat.Div(a, b)
	if y.Sign() == 0 {
		if ok || len(quotient) != 0 || len(rest) != 0 {
			t.Fatalf("Div(%v, %v), by 0: %v, %v, %v", a, b, quotient, rest, ok)
		}
		return
	}
	if !ok {
		t.Fatalf("Div(%v, %v): false", a, b)
	}
	q, r := new(big.Int).QuoRem(x, y, new(big.Int))
	want(t, "quotient", quotient, q)
	want(t, "rest", rest, r)
}

func TestDiv(t *testing.T) { // P1.1
	pairs(func(a, b []uint32) { divides(t, a, b) })
}

// TestDivBeside asks multiples, and one less and one more than they are.
func TestDivBeside(t *testing.T) { // P1.1
	r := rand.New(rand.NewSource(13))
	one := big.NewInt(1)
	for range 4000 {
		a, b := append(some(r, 5), 1), append(some(r, 5), 1+r.Uint32()%top)
		product := new(big.Int).Mul(number(a), number(b))
		divides(t, limbs(product), b)
		divides(t, limbs(new(big.Int).Add(product, one)), b)
		divides(t, limbs(new(big.Int).Sub(product, one)), b)
	}
}

// shifts: where a limb's border is passed, and beyond both ends that are held.
var shifts = []int{0, 1, 2, 31, 32, 33, 63, 64, 65, 95, 96, 97, 1000, 99999, 100000, 100001, 100032, 1 << 20, math.MaxInt, -1, -32, -100000, math.MinInt}

func TestShifts(t *testing.T) { // P1.2
	held := func(n int) uint { return uint(min(max(n, 0), 100000)) }
	for _, a := range edges {
		for _, n := range shifts {
			want(t, "Shl", nat.Shl(a, n), new(big.Int).Lsh(number(a), held(n)))
			want(t, "Shr", nat.Shr(a, n), new(big.Int).Rsh(number(a), held(n)))
			long := new(big.Int).Lsh(number(a), 100003)
			want(t, "Shr", nat.Shr(limbs(long), n), new(big.Int).Rsh(long, held(n)))
		}
	}
	r := rand.New(rand.NewSource(14))
	for range 4000 {
		a, n := some(r, 8), r.Intn(300)
		want(t, "Shl", nat.Shl(a, n), new(big.Int).Lsh(number(a), uint(n)))
		want(t, "Shr", nat.Shr(a, n), new(big.Int).Rsh(number(a), uint(n)))
	}
}

func TestBitsAndLow(t *testing.T) { // P1.2
	if nat.Bits([]uint32{5}) != 3 {
		t.Fatalf("Bits of 5: %d", nat.Bits([]uint32{5}))
	}
	singles(func(a []uint32) {
		if got := nat.Bits(a); got != number(a).BitLen() {
			t.Fatalf("Bits(%v): %d", a, got)
		}
		if got := nat.Low(a); got != int(number(a).TrailingZeroBits()) {
			t.Fatalf("Low(%v): %d", a, got)
		}
	})
}

func TestRoot(t *testing.T) { // P1.2
	singles(func(a []uint32) {
		want(t, "Root", nat.Root(a), new(big.Int).Sqrt(number(a)))
	})
	for n := range uint32(5000) {
		want(t, "Root", nat.Root([]uint32{n}), new(big.Int).Sqrt(number([]uint32{n})))
	}
}

// TestRootOfSquares asks squares and one less and one more.
func TestRootOfSquares(t *testing.T) { // P1.2
	one := big.NewInt(1)
	singles(func(a []uint32) {
		root := number(a)
		square := new(big.Int).Mul(root, root)
		want(t, "Root", nat.Root(limbs(square)), root)
		if root.Sign() > 0 {
			want(t, "Root", nat.Root(limbs(new(big.Int).Sub(square, one))), new(big.Int).Sub(root, one))
			want(t, "Root", nat.Root(limbs(new(big.Int).Add(square, one))), new(big.Int).Sqrt(new(big.Int).Add(square, one)))
		}
	})
}

// TestNoEnd asks numbers that are far longer than what Shl and Shr shift by.
func TestNoEnd(t *testing.T) { // P1.3
	x := new(big.Int).Exp(big.NewInt(7), big.NewInt(120000), nil) // some 337000 bits
	y := new(big.Int).Exp(big.NewInt(11), big.NewInt(35000), nil)
	a, b := limbs(x), limbs(y)
	want(t, "Add", nat.Add(a, b), new(big.Int).Add(x, y))
	want(t, "Mul", nat.Mul(a, b), new(big.Int).Mul(x, y))
	less, ok := nat.Sub(a, b)
	if !ok {
		t.Fatal("Sub: false")
	}
	want(t, "Sub", less, new(big.Int).Sub(x, y))
	divides(t, a, b)
	divides(t, b, a)
	divides(t, nat.Mul(a, b), a)
	want(t, "Shl", nat.Shl(a, 99999), new(big.Int).Lsh(x, 99999))
	want(t, "Shr", nat.Shr(a, 99999), new(big.Int).Rsh(x, 99999))
	want(t, "Root", nat.Root(a), new(big.Int).Sqrt(x))
	want(t, "Root", nat.Root(nat.Mul(a, a)), x)
	long := new(big.Int).Lsh(x, 400000)
	if got := nat.Bits(limbs(long)); got != long.BitLen() {
		t.Errorf("Bits: %d, want %d", got, long.BitLen())
	}
	if got := nat.Low(limbs(long)); got != 400000 {
		t.Errorf("Low: %d", got)
	}
	if nat.Cmp(a, b) != 1 || nat.Cmp(b, a) != -1 || nat.Cmp(a, nat.Add(a, []uint32{1})) != -1 {
		t.Error("Cmp")
	}
}

// answers: all lists that the calls answer to a and b.
func answers(a, b []uint32) [][]uint32 {
	sub, _ := nat.Sub(a, b)
	quotient, rest, _ := nat.Div(a, b)
	return [][]uint32{nat.Trim(a), nat.Add(a, b), sub, nat.Mul(a, b), quotient, rest,
		nat.Shl(a, 0), nat.Shl(a, 37), nat.Shr(a, 0), nat.Shr(a, 37), nat.Root(a)}
}

// roomy: a copy of a that has spare room, which is written full.
func roomy(a []uint32) []uint32 {
	out := append(slices.Clone(a), 77, 78, 79)
	return out[:len(a)]
}

// TestMemory writes over each answer, its spare room too, and sees whether an
// argument or another answer is touched.
func TestMemory(t *testing.T) { // P1.1, P1.2: with what holds everywhere
	r := rand.New(rand.NewSource(15))
	check := func(a, b []uint32) {
		a, b = roomy(a), roomy(b)
		full := func() [][]uint32 { return [][]uint32{slices.Clone(a[:len(a)+3]), slices.Clone(b[:len(b)+3])} }
		was, first := full(), answers(a, b)
		second := answers(a, b)
		kept := make([][]uint32, len(second))
		for i, s := range second {
			kept[i] = slices.Clone(s)
		}
		for i, s := range first {
			if !slices.Equal(s, second[i]) {
				t.Fatalf("answer %d to %v, %v: %v, then %v", i, a, b, s, second[i])
			}
		}
		for i, s := range first {
			s = s[:cap(s)]
			for j := range s {
				s[j] = 4711
			}
			if !slices.EqualFunc(full(), was, slices.Equal) {
				t.Fatalf("answer %d to %v, %v shares memory with them", i, a, b)
			}
			for j, s := range first[i+1:] {
				if !slices.Equal(s, kept[i+1+j]) {
					t.Fatalf("answers %d and %d to %v, %v share memory", i, i+1+j, a, b)
				}
			}
		}
		for i := range second {
			if !slices.Equal(second[i], kept[i]) {
				t.Fatalf("answer %d to %v, %v: touched by an earlier one", i, a, b)
			}
		}
	}
	for _, a := range edges {
		for _, b := range edges {
			check(a, b)
		}
	}
	for range 500 {
		a := some(r, 9)
		check(a, some(r, 6))
		check(a, a)
	}
}

// TestSameList hands one list in twice.
func TestSameList(t *testing.T) { // P1.1
	singles(func(a []uint32) {
		x := number(a)
		want(t, "Add", nat.Add(a, a), new(big.Int).Lsh(x, 1))
		want(t, "Mul", nat.Mul(a, a), new(big.Int).Mul(x, x))
		if nat.Cmp(a, a) != 0 {
			t.Fatalf("Cmp(%v, it): %d", a, nat.Cmp(a, a))
		}
		if less, ok := nat.Sub(a, a); !ok || len(less) != 0 {
			t.Fatalf("Sub(%v, it): %v, %v", a, less, ok)
		}
		divides(t, a, a)
	})
}
