package disc_test

import (
	"slices"
	"testing"

	"annulus/api"
	"annulus/disc"
)

// roomy: a copy of x that has spare room, which is written full.
func roomy(x api.Dyad) api.Dyad {
	mag := append(slices.Clone(x.M.Mag), 77, 78, 79)
	return api.Dyad{M: api.Int{Neg: x.M.Neg, Mag: mag[:len(x.M.Mag)]}, E: x.E}
}

// roomyDisc: such a copy of each number of d.
func roomyDisc(d api.Disc) api.Disc {
	return api.Disc{C: api.Cplx{Re: roomy(d.C.Re), Im: roomy(d.C.Im)}, R: roomy(d.R)}
}

// limbs: the Mags of all numbers of each.
func limbs(discs ...api.Disc) [][]uint32 {
	var out [][]uint32
	for _, d := range discs {
		out = append(out, d.C.Re.M.Mag, d.C.Im.M.Mag, d.R.M.Mag)
	}
	return out
}

// full: what lies in roomy copies, their spare room too.
func full(discs ...api.Disc) []uint32 {
	var out []uint32
	for _, l := range limbs(discs...) {
		out = append(out, l[:len(l)+3]...)
	}
	return out
}

// memory writes over each list that is answered, its spare room too, and sees
// whether an argument or another list, of the same answer too, is touched.
func memory(t *testing.T, a, b api.Disc, p int) {
	t.Helper()
	a, b = roomyDisc(a), roomyDisc(b)
	was := full(a, b)
	all := func() [][]uint32 {
		same := disc.Of(api.Cplx{Re: a.C.Re, Im: a.C.Re})
		return limbs(append(answers(a, b, p), same, disc.Mul(a, a, p))...)
	}
	lists := all()
	first := len(lists)
	lists = append(lists, all()...)
	told(a, b)
	disc.Is(a)
	var kept [][]uint32
	for _, l := range lists {
		kept = append(kept, slices.Clone(l))
	}
	for i, l := range lists[:first] {
		l = l[:cap(l)]
		for j := range l {
			l[j] = 4711
		}
		asked(t, slices.Equal(full(a, b), was), true, "arguments at list", i, a, b, p)
		asked(t, slices.EqualFunc(lists[i+1:], kept[i+1:], slices.Equal), true, "other lists at list", i, a, b, p)
	}
	asked(t, slices.EqualFunc(kept[:first], kept[first:], slices.Equal), true, "a second time", a, b, p)
}

func TestMemory(t *testing.T) { // P10.1, P10.2: with what holds everywhere
	i := 0
	pairs(func(a, b api.Disc) {
		i++
		if i%3 > 0 {
			return
		}
		memory(t, a, b, i%70)
		if i%5 == 0 {
			memory(t, a, a, i%70)
			memory(t, api.Disc{C: api.Cplx{Re: a.C.Re, Im: a.C.Re}, R: a.C.Re}, b, i%70)
			memory(t, discOf(meant(a)), disc3(1, 0, 0), i%70)
			memory(t, discOf(meant(a)), api.Disc{}, i%70)
		}
	})
}
