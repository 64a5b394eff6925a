package balls_test

import (
	"slices"
	"testing"

	"annulus/api"
	"annulus/balls"
)

// roomy: a copy of x that has spare room, which is written full.
func roomy(x api.Dyad) api.Dyad {
	mag := append(slices.Clone(x.M.Mag), 77, 78, 79)
	return api.Dyad{M: api.Int{Neg: x.M.Neg, Mag: mag[:len(x.M.Mag)]}, E: x.E}
}

func roomyPoint(c api.Cplx) api.Cplx { return api.Cplx{Re: roomy(c.Re), Im: roomy(c.Im)} }

func roomyDisc(d api.Disc) api.Disc { return api.Disc{C: roomyPoint(d.C), R: roomy(d.R)} }

// roomyAll: such a copy of each of list, by f, and of two more, which lie in its
// spare room.
func roomyAll[T any](list []T, f func(T) T, more ...T) []T {
	var out []T
	for _, x := range append(slices.Clone(list), more...) {
		out = append(out, f(x))
	}
	return out[:len(list)]
}

func roomyBalls(p []api.Disc) []api.Disc {
	return roomyAll(p, roomyDisc, disc3(81, 82, 83), disc3(84, 85, 86))
}

func roomyPoly(f []api.Cplx) []api.Cplx { return roomyAll(f, roomyPoint, at(81, 82), at(83, 84)) }

// copied: a copy of each, of so much more than it has, that shares no memory
// with it.
func copied(more int, p ...api.Disc) []api.Disc {
	clone := func(x api.Dyad) api.Dyad {
		return api.Dyad{M: api.Int{Neg: x.M.Neg, Mag: slices.Clone(x.M.Mag[:len(x.M.Mag)+more])}, E: x.E}
	}
	var out []api.Disc
	for _, d := range p {
		out = append(out, api.Disc{C: api.Cplx{Re: clone(d.C.Re), Im: clone(d.C.Im)}, R: clone(d.R)})
	}
	return out
}

// full: what lies in roomy copies, their spare room too.
func full(x api.Disc, f []api.Cplx, lists ...[]api.Disc) []api.Disc {
	out := []api.Disc{x}
	for _, c := range f[:len(f)+2] {
		out = append(out, api.Disc{C: c, R: c.Re})
	}
	for _, p := range lists {
		out = append(out, p[:len(p)+2]...)
	}
	return copied(3, out...)
}

// copies: of all lists.
func copies(lists [][]api.Disc) [][]api.Disc {
	var out [][]api.Disc
	for _, p := range lists {
		out = append(out, copied(0, p...))
	}
	return out
}

// limbs: the Mags of all discs of each.
func limbs(lists [][]api.Disc) [][]uint32 {
	var out [][]uint32
	for _, p := range lists {
		for _, d := range p {
			out = append(out, d.C.Re.M.Mag, d.C.Im.M.Mag, d.R.M.Mag)
		}
	}
	return out
}

// memory writes over each list that is answered, of limbs and of discs, its
// spare room too, and sees whether an argument or another list, of the same
// answer too, is touched.
func memory(t *testing.T, p, q []api.Disc, x api.Disc, f []api.Cplx, bits int) {
	t.Helper()
	was := full(x, f, p, q)
	untouched := func(what string, i int) {
		t.Helper()
		asked(t, alikeAll(full(x, f, p, q), was), true, "arguments at", what, i, p, q, x, f, bits)
	}
	lists := answers(p, q, x, f, bits)
	first := len(lists)
	lists = append(lists, answers(p, q, x, f, bits)...)
	told(p, q, f)
	untouched("first", 0)
	kept := copies(lists)
	asked(t, slices.EqualFunc(kept[:first], kept[first:], alikeAll), true, "a second time", p, q, x, f, bits)
	mags, keptMags := limbs(lists), limbs(kept)
	for i, l := range limbs(lists[:first]) {
		l = l[:cap(l)]
		for j := range l {
			l[j] = 4711
		}
		untouched("limbs", i)
		asked(t, slices.EqualFunc(mags[i+1:], keptMags[i+1:], slices.Equal), true, "other limbs at", i, p, q, x, f, bits)
	}
	kept = copies(lists)
	for i, l := range lists[:first] {
		l = l[:cap(l)]
		for j := range l {
			l[j] = disc3(4711, 4712, 4713)
		}
		untouched("list", i)
		asked(t, slices.EqualFunc(lists[i+1:], kept[i+1:], alikeAll), true, "other lists at", i, p, q, x, f, bits)
	}
}

func TestMemory(t *testing.T) { // P12.1: with what holds everywhere
	i := 0
	pairs(func(p, q []api.Disc) {
		i++
		if i%5 > 0 {
			return
		}
		for _, x := range []api.Disc{{}, disc3(1, 0, 0), disc3(int64(i%9)-4, -2, 3)} {
			f := middles(p)
			memory(t, roomyBalls(p), roomyBalls(q), roomyDisc(x), roomyPoly(f), i%70)
			memory(t, roomyBalls(discsOf(meantAll(p))), roomyBalls(ballsOf(1, 0, 0)), roomyDisc(x), roomyPoly(of(1)), i%70)
			memory(t, roomyBalls(discsOf(meantAll(q))), roomyBalls(nil), roomyDisc(x), roomyPoly(nil), i%70)
		}
		// All of it is one piece of memory.
		one := roomyBalls(p)
		x := roomyDisc(disc3(3, 4, 5))
		if len(one) > 0 {
			x = one[0]
		}
		memory(t, one, one, x, roomyPoly(of(1, 2)), i%70)
		same := api.Disc{C: api.Cplx{Re: x.R, Im: x.R}, R: x.R}
		for j := range one {
			one[j] = same
		}
		memory(t, one, one[:len(one)/2], same, roomyAll(of(1, 2), func(api.Cplx) api.Cplx { return same.C }, at(0, 0), at(0, 0)), i%70)
	})
}

// middles: the polynomial of p's.
func middles(p []api.Disc) []api.Cplx {
	var f []api.Cplx
	for _, d := range p {
		f = append(f, d.C)
	}
	return f
}

// TestSpareRoom sees that what lies behind what is handed in isn't asked.
func TestSpareRoom(t *testing.T) { // P12.1: with what holds everywhere
	p, f := ballsOf(1, 2, 1, 4, 0, 3, 5, 0, 6), []api.Cplx{at(1, 2), at(3, 0), at(5, 0)}
	x := disc3(2, 1, 1)
	for n := range 3 {
		a := meantAll(p[:n])
		want(t, balls.Add(p[:n], p[:1]), both(a, meantAll(p[:1])), "Add", p[:n])
		wantDisc(t, balls.At(p[:n], x, 9), valueAt(a, meant(x), 9), "At", p[:n])
		want(t, balls.Deriv(p[:n]), slope(a), "Deriv", p[:n])
		asked(t, balls.Has(p[:n], f[:n]), true, "Has", p[:n], f[:n])
		asked(t, balls.Has(p, f[:n]), n > 1, "Has", p, f[:n])
	}
}
