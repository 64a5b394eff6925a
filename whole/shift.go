package whole

import (
	"annulus/api"
	"annulus/nat"
)

// mostShift: beyond it shifts are held, nat's and so these.
const mostShift = 100000

// Shl tells a times 2 to the power of n.
func Shl(a api.Int, n int) api.Int { return signed(Sign(a), nat.Shl(a.Mag, n)) }

// Shr tells the floor of a by 2 to the power of n.
func Shr(a api.Int, n int) api.Int {
	sign, mag := Sign(a), nat.Shr(a.Mag, n)
	if sign < 0 && nat.Low(a.Mag) < min(n, mostShift) {
		// Not only noughts fall out: the floor lies farther from 0.
		mag = nat.Add(mag, []uint32{1})
	}
	return signed(sign, mag)
}
