package real_test

import (
	"slices"
	"testing"

	"annulus/api"
)

// roomy: a copy of x that has spare room, which is written full.
func roomy(x api.Dyad) api.Dyad {
	mag := append(slices.Clone(x.M.Mag), 77, 78, 79)
	return api.Dyad{M: api.Int{Neg: x.M.Neg, Mag: mag[:len(x.M.Mag)]}, E: x.E}
}

// full: what lies in such copies, their spare room too.
func full(ends ...api.Dyad) []uint32 {
	var out []uint32
	for _, d := range ends {
		out = append(out, d.M.Mag[:len(d.M.Mag)+3]...)
	}
	return out
}

// limbs: the Mags of both ends of each.
func limbs(reals []api.Real) [][]uint32 {
	var out [][]uint32
	for _, x := range reals {
		out = append(out, x.Lo.M.Mag, x.Hi.M.Mag)
	}
	return out
}

// memory writes over each list that is answered, its spare room too, and sees
// whether an argument or another list, of the same answer too, is touched.
func memory(t *testing.T, x, y api.Real, p int) {
	t.Helper()
	x, y = api.Real{Lo: roomy(x.Lo), Hi: roomy(x.Hi)}, api.Real{Lo: roomy(y.Lo), Hi: roomy(y.Hi)}
	was := full(x.Lo, x.Hi, y.Lo, y.Hi)
	lists := limbs(answers(x, y, p))
	first := len(lists)
	lists = append(lists, limbs(answers(x, y, p))...)
	var kept [][]uint32
	for _, l := range lists {
		kept = append(kept, slices.Clone(l))
	}
	for i, l := range lists[:first] {
		l = l[:cap(l)]
		for j := range l {
			l[j] = 4711
		}
		asked(t, slices.Equal(full(x.Lo, x.Hi, y.Lo, y.Hi), was), true, "arguments at list", i, x, y, p)
		asked(t, slices.EqualFunc(lists[i+1:], kept[i+1:], slices.Equal), true, "other lists at list", i, x, y, p)
	}
	asked(t, slices.EqualFunc(kept[:first], kept[first:], slices.Equal), true, "a second time", x, y, p)
}

func TestMemory(t *testing.T) { // P7.1, P7.2: with what holds everywhere
	i := 0
	pairs(func(x, y api.Real) {
		i++
		memory(t, x, y, i%70)
		if i%5 == 0 {
			memory(t, x, x, i%70)
			memory(t, api.Real{Lo: x.Lo, Hi: x.Lo}, api.Real{Lo: x.Lo, Hi: y.Lo}, i%70)
			memory(t, realOf(meant(x)), from(1, 1), i%70)
		}
	})
}
