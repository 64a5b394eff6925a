// Package nat: numbers in limbs: see doc/01-nat.md.
package nat

import (
	"cmp"
	"math/bits"
)

// limb: how many bits a limb has.
const limb = 32

// cut: a without the noughts on top. It lies where a lies, so a call must not
// tell it of what was handed in.
func cut(a []uint32) []uint32 {
	n := len(a)
	for n > 0 && a[n-1] == 0 {
		n--
	}
	return a[:n]
}

// at: the limb at i. There are noughts above every number, so that numbers of
// different lengths are reckoned with alike.
func at(a []uint32, i int) uint32 {
	if i < len(a) {
		return a[i]
	}
	return 0
}

// Is tells whether there is no nought on top.
func Is(a []uint32) bool { return len(cut(a)) == len(a) }

// Trim tells a without noughts on top.
func Trim(a []uint32) []uint32 {
	// Not slices.Clone: of an empty list it keeps where that lies.
	return append([]uint32(nil), cut(a)...)
}

// Cmp tells -1, 0, 1, as a is less than b, equal, more.
func Cmp(a, b []uint32) int {
	a, b = cut(a), cut(b)
	if len(a) != len(b) {
		return cmp.Compare(len(a), len(b))
	}
	for i := len(a) - 1; i >= 0; i-- {
		if a[i] != b[i] {
			return cmp.Compare(a[i], b[i])
		}
	}
	return 0
}

// Add tells the sum.
func Add(a, b []uint32) []uint32 {
	a, b = cut(a), cut(b)
	n := max(len(a), len(b))
	sum := make([]uint32, n+1)
	var carry uint32
	for i := range n {
		sum[i], carry = bits.Add32(at(a, i), at(b, i), carry)
	}
	sum[n] = carry
	return cut(sum)
}

// Sub tells a less b; false, if a is less than b.
func Sub(a, b []uint32) ([]uint32, bool) {
	a, b = cut(a), cut(b)
	if Cmp(a, b) < 0 {
		return nil, false
	}
	rest := make([]uint32, len(a))
	var borrow uint32
	for i := range a {
		rest[i], borrow = bits.Sub32(a[i], at(b, i), borrow)
	}
	return cut(rest), true
}

// Mul tells the product.
func Mul(a, b []uint32) []uint32 {
	a, b = cut(a), cut(b)
	product := make([]uint32, len(a)+len(b))
	for i, x := range a {
		product[i+len(b)] = addTimes(product[i:i+len(b)], b, x)
	}
	return cut(product)
}

// addTimes adds b times d to part, which is as long as b, and tells what goes
// beyond it.
func addTimes(part, b []uint32, d uint32) uint32 {
	var carry uint64
	for i, y := range b {
		// Can't go round: (2^32-1)^2 + 2(2^32-1) is 2^64-1.
		carry += uint64(d)*uint64(y) + uint64(part[i])
		part[i] = uint32(carry)
		carry >>= limb
	}
	return uint32(carry)
}
