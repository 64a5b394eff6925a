package graeffe_test

import "annulus/api"

// What the calls are to tell, each by what it means and not by how graeffe gets
// there: no halves, no pairs.

// nought: the point 0.
func nought() point { return point{whole(0), whole(0)} }

// one: the point 1.
func one() point { return point{whole(1), whole(0)} }

// meant: the polynomial that p is, no nought on top.
func meant(p []api.Cplx) []point {
	var out []point
	for _, c := range p {
		out = append(out, spot(c))
	}
	return trimmed(out)
}

// trimmed: p without noughts on top.
func trimmed(p []point) []point {
	for len(p) > 0 && p[len(p)-1].zero() {
		p = p[:len(p)-1]
	}
	return p
}

// coefficients tells p's as they are written.
func coefficients(p []point) []api.Cplx {
	var out []api.Cplx
	for _, c := range trimmed(p) {
		out = append(out, cplxOf(c))
	}
	return out
}

// noughts: n of them.
func noughts(n int) []point {
	out := make([]point, n)
	for i := range out {
		out[i] = nought()
	}
	return out
}

func plus(p, q []point) []point {
	out := noughts(max(len(p), len(q)))
	for i, c := range p {
		out[i] = out[i].plus(c)
	}
	for i, c := range q {
		out[i] = out[i].plus(c)
	}
	return trimmed(out)
}

func times(p, q []point) []point {
	out := noughts(len(p) + len(q))
	for i, a := range p {
		for j, b := range q {
			out[i+j] = out[i+j].plus(a.times(b))
		}
	}
	return trimmed(out)
}

// opposite: 0 less p.
func opposite(p []point) []point {
	out := noughts(len(p))
	for i, c := range p {
		out[i] = nought().less(c)
	}
	return out
}

// z: the polynomial z.
func z() []point { return []point{nought(), one()} }

// of: p of q, the sum of its coefficients times q's powers.
func (p polynomial) of(q []point) []point {
	var out []point
	power := []point{one()}
	for _, c := range p {
		out = plus(out, times([]point{c}, power))
		power = times(power, q)
	}
	return out
}

type polynomial []point

// mirrored: p of (-z).
func mirrored(p []point) []point { return polynomial(p).of(opposite(z())) }

// joined: e of z squared + z times o of z squared.
func joined(e, o []point) []point {
	square := times(z(), z())
	return plus(polynomial(e).of(square), times(z(), polynomial(o).of(square)))
}

// stepped: p of z times p of (-z), which has for z what it is to have for z
// squared; its sign is as it is to be where the top is the square of p's.
func stepped(p []point) []point {
	both := times(p, mirrored(p))
	if len(p)%2 == 0 {
		both = opposite(both)
	}
	var out []point
	for i, c := range both {
		if i%2 == 0 {
			out = append(out, c)
		} else if !c.zero() {
			panic("z squared isn't all of it")
		}
	}
	return trimmed(out)
}

// fromRoots: top times all (z - root).
func fromRoots(top point, roots []point) []point {
	p := []point{top}
	for _, root := range roots {
		p = times(p, []point{nought().less(root), one()})
	}
	return trimmed(p)
}

// squares: of all of list.
func squares(list []point) []point {
	var out []point
	for _, a := range list {
		out = append(out, a.times(a))
	}
	return out
}
