package nat

import (
	"math"
	"math/big"
	"testing"
)

// TestGuess holds the guess of a digit against the digit by the limbs that it
// asks, in cases in which it must be lowered not at all, once, twice.
func TestGuess(t *testing.T) { // P1.1
	const half, most = 1 << 31, math.MaxUint32
	limbs := []uint32{0, 1, 2, half - 1, half, half + 1, most - 1, most}
	for _, top := range limbs[4:] {
		for _, next := range limbs {
			for _, x := range limbs {
				for _, y := range limbs {
					for _, z := range limbs {
						by, part := []uint32{next, top}, []uint32{z, y, x}
						if Cmp(part[1:], by) >= 0 { // such a part isn't left by the digit ahead
							continue
						}
						want := new(big.Int).Div(whole(part), whole(by))
						if got := guess(part, by); uint64(got) != want.Uint64() {
							t.Fatalf("guess(%v, %v): %d, want %d", part, by, got, want)
						}
					}
				}
			}
		}
	}
}

// TestPutBack has a guess that is one too great, as only a lower limb tells.
func TestPutBack(t *testing.T) { // P1.1
	by, part := []uint32{1, 0, 1 << 31}, []uint32{0, 0, 0, 1 << 30}
	digit := guess(part, by)
	if !takeTimes(part, by, digit) {
		t.Fatalf("%d times isn't too much", digit)
	}
	putBack(part, by)
	want := new(big.Int).Mod(whole([]uint32{0, 0, 0, 1 << 30}), whole(by))
	if whole(part).Cmp(want) != 0 {
		t.Fatalf("%v is left, want %v", part, want)
	}
}

func whole(a []uint32) *big.Int {
	n := new(big.Int)
	for i := len(a) - 1; i >= 0; i-- {
		n.Lsh(n, 32).Or(n, big.NewInt(int64(a[i])))
	}
	return n
}
