package digits_test

import (
	"encoding/binary"
	"math"
	"math/big"
	"math/rand"
	"regexp"
	"slices"
	"sort"
	"strings"
	"testing"

	"annulus/api"
	"annulus/digits"
)

// The tests hold digits against math/big, and Parse against a pattern of what
// Text tells.

const top = math.MaxUint32

// mags: at the edges: nothing, noughts only, noughts on top, full limbs, limbs
// whose digits begin with noughts, a group's border.
var mags = [][]uint32{
	nil, {}, {0}, {0, 0, 0},
	{1}, {1, 0}, {9}, {10}, {15}, {16}, {12, 0, 0}, {99}, {100}, {255}, {256},
	{999999999}, {1000000000}, {1000000001}, {1000000000, 0}, {1999999999}, {2000000000},
	{top}, {top, 0}, {0, 1}, {1, 1}, {0, 1, 0}, {1 << 31}, {0, 1 << 31}, {top, top}, {top - 1, top},
	{0xabcdef, 0x10}, {0x0a, 0x0b, 0xc}, {0, 0, 1}, {1, 0, 1}, {0, 0, 1, 0, 0}, {0, 0xf, 0, 0xf0000000}, {top, top, top},
}

// edges: each of mags with either sign, 0 too.
func edges() []api.Int {
	var out []api.Int
	for _, m := range mags {
		out = append(out, api.Int{Mag: m}, api.Int{Neg: true, Mag: m})
	}
	return out
}

// number tells a as a number of the library's.
func number(a api.Int) *big.Int {
	var text []byte
	for _, x := range slices.Backward(a.Mag) {
		text = binary.BigEndian.AppendUint32(text, x)
	}
	n := new(big.Int).SetBytes(text)
	if a.Neg {
		n.Neg(n)
	}
	return n
}

// written tells such a number as an Int, as it is meant.
func written(n *big.Int) api.Int {
	mag := make([]uint32, (n.BitLen()+31)/32)
	text := n.FillBytes(make([]byte, 4*len(mag)))
	for i := range mag {
		mag[len(mag)-1-i] = binary.BigEndian.Uint32(text[4*i:])
	}
	return api.Int{Neg: n.Sign() < 0, Mag: mag}
}

// equal: both are written alike.
func equal(a, b api.Int) bool { return a.Neg == b.Neg && slices.Equal(a.Mag, b.Mag) }

// power: 10 to the power of n, and what is asked for beside it.
func power(n int, beside int64) *big.Int {
	p := new(big.Int).Exp(big.NewInt(10), big.NewInt(int64(n)), nil)
	return p.Add(p, big.NewInt(beside))
}

// singles calls f with the edges, with numbers at the borders of so many
// digits, and with numbers by chance.
func singles(f func(a api.Int)) {
	for _, a := range edges() {
		f(a)
	}
	for n := range api.MaxDigits + 3 {
		for beside := int64(-1); beside <= 1; beside++ {
			a := written(power(n, beside))
			f(a)
			f(api.Int{Neg: true, Mag: a.Mag})
			f(written(new(big.Int).Add(new(big.Int).Lsh(big.NewInt(1), uint(4*n)), big.NewInt(beside))))
		}
	}
	r := rand.New(rand.NewSource(31))
	for range 4000 {
		a := api.Int{Neg: r.Intn(2) > 0, Mag: make([]uint32, r.Intn(12))}
		for i := range a.Mag {
			a.Mag[i] = []uint32{0, 1, top, 1 << 31, 1000000000, r.Uint32(), r.Uint32() >> r.Intn(32)}[r.Intn(7)]
		}
		f(a)
	}
}

func TestText(t *testing.T) { // P3.1
	for _, c := range []struct {
		a    api.Int
		want string
	}{
		{api.Int{}, "0"},
		{api.Int{Mag: []uint32{}}, "0"},
		{api.Int{Neg: true}, "0"},
		{api.Int{Mag: []uint32{0, 0}}, "0"},
		{api.Int{Neg: true, Mag: []uint32{0}}, "0"},
		{api.Int{Neg: true, Mag: []uint32{12}}, "-12"},
		{api.Int{Mag: []uint32{12}}, "12"},
		{api.Int{Mag: []uint32{12, 0, 0}}, "12"},
		{api.Int{Neg: true, Mag: []uint32{7, 0}}, "-7"},
		{api.Int{Mag: []uint32{10}}, "10"},
		{api.Int{Mag: []uint32{1000000000}}, "1000000000"},
		{api.Int{Neg: true, Mag: []uint32{1000000001}}, "-1000000001"},
		{api.Int{Mag: []uint32{0, 1}}, "4294967296"},
		{api.Int{Neg: true, Mag: []uint32{0, 1 << 31}}, "-9223372036854775808"},
	} {
		if got := digits.Text(c.a); got != c.want {
			t.Errorf("Text(%v): %s, want %s", c.a, got, c.want)
		}
	}
	singles(func(a api.Int) {
		if got := digits.Text(a); got != number(a).String() {
			t.Fatalf("Text(%v): %s, want %s", a, got, number(a))
		}
	})
}

func TestHex(t *testing.T) { // P3.1
	for _, c := range []struct {
		a    api.Int
		want string
	}{
		{api.Int{}, "0"},
		{api.Int{Neg: true}, "0"},
		{api.Int{Neg: true, Mag: []uint32{0, 0}}, "0"},
		{api.Int{Mag: []uint32{10}}, "a"},
		{api.Int{Neg: true, Mag: []uint32{255, 0}}, "-ff"},
		{api.Int{Mag: []uint32{0xabcdef, 0x10}}, "1000abcdef"},
		{api.Int{Neg: true, Mag: []uint32{0, 0, 1, 0}}, "-10000000000000000"},
		{api.Int{Mag: []uint32{top, 0x1234}}, "1234ffffffff"},
	} {
		if got := digits.Hex(c.a); got != c.want {
			t.Errorf("Hex(%v): %s, want %s", c.a, got, c.want)
		}
	}
	singles(func(a api.Int) {
		if got := digits.Hex(a); got != number(a).Text(16) {
			t.Fatalf("Hex(%v): %s, want %s", a, got, number(a).Text(16))
		}
	})
}

// TestLong asks numbers of far more than MaxDigits digits: to tell has no
// limit.
func TestLong(t *testing.T) { // P3.1
	for _, n := range []*big.Int{
		new(big.Int).Exp(big.NewInt(7), big.NewInt(30000), nil),
		new(big.Int).Lsh(big.NewInt(-1), 100000),
		power(20000, 0),
		power(20000, -1),
	} {
		if digits.Text(written(n)) != n.String() {
			t.Errorf("Text of %d bits", n.BitLen())
		}
		if digits.Hex(written(n)) != n.Text(16) {
			t.Errorf("Hex of %d bits", n.BitLen())
		}
	}
}

// told: all that Text may tell of what is read; begun: what that may begin
// with.
var (
	told  = regexp.MustCompile(`\A(0|-?[1-9][0-9]{0,399})\z`)
	begun = regexp.MustCompile(`\A(0|-?|-?[1-9][0-9]{0,399})\z`)
)

// expected: what is to be told of s: a place and an error.
func expected(s string) (int, api.Errno) {
	if told.MatchString(s) {
		return len(s), api.OK
	}
	place := sort.Search(len(s), func(i int) bool { return !begun.MatchString(s[:i+1]) })
	if place < len(s) {
		return place, api.ErrByte
	}
	return len(s), api.ErrEnd
}

// reads holds Parse of s against the pattern and against math/big.
func reads(t *testing.T, s string) {
	t.Helper()
	want := new(big.Int)
	place, e := expected(s)
	if e == api.OK {
		want.SetString(s, 10)
	}
	a, gotPlace, got := digits.Parse(s)
	if got != e || gotPlace != place || !equal(a, written(want)) {
		t.Fatalf("Parse(%q): %v, %d, %d, want %v, %d, %d", s, a, gotPlace, got, written(want), place, e)
	}
}

func TestParse(t *testing.T) { // P3.1
	ones := strings.Repeat("1", api.MaxDigits)
	for _, c := range []struct {
		s     string
		value int64
		place int
		e     api.Errno
	}{
		{"0", 0, 1, api.OK},
		{"7", 7, 1, api.OK},
		{"-7", -7, 2, api.OK},
		{"10", 10, 2, api.OK},
		{"-12", -12, 3, api.OK},
		{"9223372036854775807", math.MaxInt64, 19, api.OK},
		{"-9223372036854775808", math.MinInt64, 20, api.OK},
		{"", 0, 0, api.ErrEnd},
		{"-", 0, 1, api.ErrEnd},
		{"-0", 0, 1, api.ErrByte},
		{"-00", 0, 1, api.ErrByte},
		{"-05", 0, 1, api.ErrByte},
		{"00", 0, 1, api.ErrByte},
		{"05", 0, 1, api.ErrByte},
		{"005", 0, 1, api.ErrByte},
		{"0x", 0, 1, api.ErrByte},
		{"0-", 0, 1, api.ErrByte},
		{"--", 0, 1, api.ErrByte},
		{"--5", 0, 1, api.ErrByte},
		{"5-", 0, 1, api.ErrByte},
		{"+5", 0, 0, api.ErrByte},
		{" 5", 0, 0, api.ErrByte},
		{"5 ", 0, 1, api.ErrByte},
		{"5\n", 0, 1, api.ErrByte},
		{"-x", 0, 1, api.ErrByte},
		{"x", 0, 0, api.ErrByte},
		{"1_000", 0, 1, api.ErrByte},
		{"1e3", 0, 1, api.ErrByte},
		{"0xff", 0, 1, api.ErrByte},
		{"ff", 0, 0, api.ErrByte},
		{"1.5", 0, 1, api.ErrByte},
		{"12\x00", 0, 2, api.ErrByte},
		{"\xff", 0, 0, api.ErrByte},
		{"1\u0663", 0, 1, api.ErrByte}, // a digit, but none of these
		{ones + "1", 0, api.MaxDigits, api.ErrByte},
		{"-" + ones + "1", 0, api.MaxDigits + 1, api.ErrByte},
		{ones + "0", 0, api.MaxDigits, api.ErrByte},
		{ones + "x", 0, api.MaxDigits, api.ErrByte},
		{ones + "1x", 0, api.MaxDigits, api.ErrByte},
		{ones[1:] + "x", 0, api.MaxDigits - 1, api.ErrByte},
	} {
		a, place, e := digits.Parse(c.s)
		if place != c.place || e != c.e || !equal(a, written(big.NewInt(c.value))) {
			t.Errorf("Parse(%q): %v, %d, %d, want %d, %d, %d", c.s, a, place, e, c.value, c.place, c.e)
		}
		reads(t, c.s)
	}
}

// TestParseShort asks all texts of up to six bytes of some that matter.
func TestParseShort(t *testing.T) { // P3.1
	const bytes = "-019x"
	texts := []string{""}
	for range 6 {
		var longer []string
		for _, s := range texts {
			reads(t, s)
			for _, b := range []byte(bytes) {
				longer = append(longer, s+string(b))
			}
		}
		texts = longer
	}
	for _, s := range texts {
		reads(t, s)
	}
}

// TestParsePlaces puts each byte at every place of texts, instead of what
// stands there, ahead of it and behind all, and lets each end too soon.
func TestParsePlaces(t *testing.T) { // P3.1
	for _, s := range []string{"0", "-1", "12", "-907", "1000000000", "-12345678901234567890"} {
		for i := range len(s) + 1 {
			reads(t, s[:i])
			for b := range 256 {
				reads(t, s[:i]+string([]byte{byte(b)})+s[i:])
				if i < len(s) {
					reads(t, s[:i]+string([]byte{byte(b)})+s[i+1:])
				}
			}
		}
	}
}

// TestParseMost asks texts at MaxDigits digits, one less, one more, and a byte
// that can't stand there at every place of them.
func TestParseMost(t *testing.T) { // P3.1
	for n := api.MaxDigits - 2; n <= api.MaxDigits+2; n++ {
		for _, s := range []string{strings.Repeat("9", n), "1" + strings.Repeat("0", n-1), "0" + strings.Repeat("9", n-1)} {
			reads(t, s)
			reads(t, "-"+s)
		}
	}
	most := "-" + strings.Repeat("9", api.MaxDigits)
	for i := range len(most) {
		reads(t, most[:i])
		for _, b := range []string{"-", "x", "/", ":", " "} {
			reads(t, most[:i]+b+most[i+1:])
		}
	}
	for _, n := range []int{api.MaxText, api.MaxText + 1, 1 << 20} {
		if a, place, e := digits.Parse(strings.Repeat("9", n)); place != api.MaxDigits || e != api.ErrByte || !equal(a, api.Int{}) {
			t.Errorf("Parse of %d digits: %v, %d, %d", n, a, place, e)
		}
	}
}

// TestReadBack reads what was written, and writes what was read.
func TestReadBack(t *testing.T) { // P3.2
	singles(func(a api.Int) {
		s, meant := digits.Text(a), written(number(a))
		got, place, e := digits.Parse(s)
		if len(strings.TrimPrefix(s, "-")) > api.MaxDigits {
			if most := len(s) - len(strings.TrimPrefix(s, "-")) + api.MaxDigits; place != most || e != api.ErrByte || !equal(got, api.Int{}) {
				t.Fatalf("Parse(%s): %v, %d, %d", s, got, place, e)
			}
			return
		}
		if !equal(got, meant) || place != len(s) || e != api.OK {
			t.Fatalf("Parse(%s): %v, %d, %d, want %v", s, got, place, e, meant)
		}
		if digits.Text(got) != s {
			t.Fatalf("Text of what is read as %s: %s", s, digits.Text(got))
		}
	})
}

// roomy: a copy of a that has spare room, which is written full.
func roomy(a api.Int) api.Int {
	mag := append(slices.Clone(a.Mag), 77, 78, 79)
	return api.Int{Neg: a.Neg, Mag: mag[:len(a.Mag)]}
}

// TestMemory sees that what is told is not changed, its spare room neither,
// and writes over what was read to see whether another answer is touched.
func TestMemory(t *testing.T) { // P3.1: with what holds everywhere
	singles(func(a api.Int) {
		a = roomy(a)
		was := slices.Clone(a.Mag[:len(a.Mag)+3])
		s, hex := digits.Text(a), digits.Hex(a)
		if !slices.Equal(a.Mag[:len(a.Mag)+3], was) {
			t.Fatalf("Text(%v) or Hex of it changes it", a)
		}
		first, _, _ := digits.Parse(s)
		second, _, _ := digits.Parse(s)
		kept := slices.Clone(second.Mag)
		mag := first.Mag[:cap(first.Mag)]
		for i := range mag {
			mag[i] = 4711
		}
		third, _, _ := digits.Parse(s)
		if !slices.Equal(second.Mag, kept) || !slices.Equal(third.Mag, kept) {
			t.Fatalf("Parse(%s): answers share memory", s)
		}
		if digits.Text(a) != s || digits.Hex(a) != hex {
			t.Fatalf("Text(%v) or Hex of it: another answer", a)
		}
	})
}
