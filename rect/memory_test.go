package rect_test

import (
	"slices"
	"testing"

	"annulus/api"
	"annulus/rect"
)

// roomy: a copy of x that has spare room, which is written full.
func roomy(x api.Dyad) api.Dyad {
	mag := append(slices.Clone(x.M.Mag), 77, 78, 79)
	return api.Dyad{M: api.Int{Neg: x.M.Neg, Mag: mag[:len(x.M.Mag)]}, E: x.E}
}

// ends: the ends of both parts.
func ends(x api.Rect) [4]api.Dyad { return [4]api.Dyad{x.Re.Lo, x.Re.Hi, x.Im.Lo, x.Im.Hi} }

// roomyRect: such a copy of each end of x.
func roomyRect(x api.Rect) api.Rect {
	return api.Rect{Re: api.Real{Lo: roomy(x.Re.Lo), Hi: roomy(x.Re.Hi)}, Im: api.Real{Lo: roomy(x.Im.Lo), Hi: roomy(x.Im.Hi)}}
}

// full: what lies in such copies, their spare room too.
func full(rects ...api.Rect) []uint32 {
	var out []uint32
	for _, x := range rects {
		for _, d := range ends(x) {
			out = append(out, d.M.Mag[:len(d.M.Mag)+3]...)
		}
	}
	return out
}

// limbs: the Mags of all ends of each.
func limbs(rects []api.Rect) [][]uint32 {
	var out [][]uint32
	for _, x := range rects {
		for _, d := range ends(x) {
			out = append(out, d.M.Mag)
		}
	}
	return out
}

// memory writes over each list that is answered, its spare room too, and sees
// whether an argument or another list, of the same answer too, is touched.
func memory(t *testing.T, x, y api.Rect, p int) {
	t.Helper()
	x, y = roomyRect(x), roomyRect(y)
	was := full(x, y)
	all := func() [][]uint32 {
		return limbs(append(answers(x, y, p), rect.Of(api.Cplx{Re: x.Re.Lo, Im: x.Re.Lo})))
	}
	lists := all()
	first := len(lists)
	lists = append(lists, all()...)
	told(x, y, p)
	rect.Is(x)
	rect.Has(x, api.Cplx{Re: y.Re.Lo, Im: y.Im.Hi})
	var kept [][]uint32
	for _, l := range lists {
		kept = append(kept, slices.Clone(l))
	}
	for i, l := range lists[:first] {
		l = l[:cap(l)]
		for j := range l {
			l[j] = 4711
		}
		asked(t, slices.Equal(full(x, y), was), true, "arguments at list", i, x, y, p)
		asked(t, slices.EqualFunc(lists[i+1:], kept[i+1:], slices.Equal), true, "other lists at list", i, x, y, p)
	}
	asked(t, slices.EqualFunc(kept[:first], kept[first:], slices.Equal), true, "a second time", x, y, p)
}

func TestMemory(t *testing.T) { // P9.1, P9.2: with what holds everywhere
	i := 0
	pairs(func(x, y api.Rect) {
		i++
		if i%3 > 0 {
			return
		}
		memory(t, x, y, i%70)
		if i%5 == 0 {
			memory(t, x, x, i%70)
			memory(t, api.Rect{Re: x.Re, Im: x.Re}, api.Rect{Re: x.Re, Im: y.Im}, i%70)
			memory(t, rectOf(meant(x)), from4(1, 1, 0, 0), i%70)
			memory(t, rectOf(meant(x)), api.Rect{}, i%70)
		}
	})
}
