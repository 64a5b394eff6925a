package round

import "annulus/api"

// What stands between a number and the multiple beside it that is nearer to 0,
// held against half of the way to the other one.
const (
	less     = iota
	overEven // just half, over an even multiple
	overOdd  // just half, over an odd one
	more
)

// outward: how many multiples farther from 0 a mode goes, by the mode, the sign
// (less than 0, more), and what stands between.
var outward = [3][2][4]int64{
	api.Down: {
		{less: 1, overEven: 1, overOdd: 1, more: 1},
		{less: 0, overEven: 0, overOdd: 0, more: 0},
	},
	api.Up: {
		{less: 0, overEven: 0, overOdd: 0, more: 0},
		{less: 1, overEven: 1, overOdd: 1, more: 1},
	},
	api.Near: {
		{less: 0, overEven: 0, overOdd: 1, more: 1},
		{less: 0, overEven: 0, overOdd: 1, more: 1},
	},
}

// farther: how many multiples farther from 0 a number of such a sign, which
// isn't 0, goes.
func farther(mode, sign, between int) int64 {
	if mode != api.Down && mode != api.Up {
		mode = api.Near
	}
	return outward[mode][(sign+1)/2][between]
}

// rest: what stands between a number and the multiple mag. The number has that
// many bits below the multiples, not all of them 0, and so many whole halves.
func rest(halves, mag api.Int, gone int) int {
	switch {
	case !odd(halves):
		return less
	case gone > 1:
		return more
	case odd(mag):
		return overOdd
	}
	return overEven
}

// odd tells whether m, as it is meant, is odd.
func odd(m api.Int) bool { return len(m.Mag) > 0 && m.Mag[0]%2 != 0 }
