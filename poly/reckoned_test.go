package poly_test

import (
	"math/big"

	"annulus/api"
)

// What the calls are to tell, each by what it means and not by how poly gets
// there: no rule of Horner's, each coefficient on its own.

// nought: the point 0.
func nought() point { return point{whole(0), whole(0)} }

// one: the point 1.
func one() point { return point{whole(1), whole(0)} }

// meant: the polynomial that p is, no nought on top.
func meant(p []api.Cplx) []point {
	var out []point
	for _, c := range p {
		out = append(out, spot(c))
	}
	return trimmed(out)
}

// trimmed: p without noughts on top.
func trimmed(p []point) []point {
	for len(p) > 0 && p[len(p)-1].zero() {
		p = p[:len(p)-1]
	}
	return p
}

// coefficients tells p's as they are written.
func coefficients(p []point) []api.Cplx {
	var out []api.Cplx
	for _, c := range trimmed(p) {
		out = append(out, cplxOf(c))
	}
	return out
}

// noughts: n of them.
func noughts(n int) []point {
	out := make([]point, n)
	for i := range out {
		out[i] = nought()
	}
	return out
}

// powers: a to the power of each number below n.
func powers(a point, n int) []point {
	out := []point{one()}
	for len(out) < n {
		out = append(out, out[len(out)-1].times(a))
	}
	return out
}

func plus(p, q []point) []point {
	out := noughts(max(len(p), len(q)))
	for i, c := range p {
		out[i] = out[i].plus(c)
	}
	for i, c := range q {
		out[i] = out[i].plus(c)
	}
	return trimmed(out)
}

func opposite(p []point) []point {
	out := noughts(len(p))
	for i, c := range p {
		out[i] = out[i].less(c)
	}
	return out
}

func times(p, q []point) []point {
	out := noughts(len(p) + len(q))
	for i, a := range p {
		for j, b := range q {
			out[i+j] = out[i+j].plus(a.times(b))
		}
	}
	return trimmed(out)
}

func slope(p []point) []point {
	var out []point
	for i, c := range p {
		if i > 0 {
			out = append(out, c.by(big.NewInt(int64(i))))
		}
	}
	return out
}

// valueAt: the sum of the coefficients times z's powers.
func valueAt(p []point, z point) point {
	out, to := nought(), powers(z, len(p)+1)
	for i, c := range p {
		out = out.plus(c.times(to[i]))
	}
	return out
}

// shifted: (z + c) to the power of j has c's powers, each as often as so many
// can be taken of j.
func shifted(p []point, c point) []point {
	out, to := noughts(len(p)), powers(c, len(p)+1)
	for j, a := range p {
		for i := range j + 1 {
			often := new(big.Int).Binomial(int64(j), int64(i))
			out[i] = out[i].plus(a.times(to[j-i]).by(often))
		}
	}
	return out
}

// scaled: p of (z times 2 to the power of n).
func scaled(p []point, n int) []point {
	out := noughts(len(p))
	for i, c := range p {
		out[i] = c.moved(n * i)
	}
	return out
}

// quotient: z to the power of j less r to that power is (z - r) times the sum of
// all products of z's and r's powers that go to j - 1 together.
func quotient(p []point, r point) []point {
	out, to := noughts(max(len(p)-1, 0)), powers(r, len(p)+1)
	for j, a := range p {
		for i := range j {
			out[i] = out[i].plus(a.times(to[j-1-i]))
		}
	}
	return out
}

// chosen: the coefficient of z to the power of i in the product of all (z -
// root): the sum of the products of the opposites of all but i of them, by all
// ways to leave i out.
func chosen(roots []point) []point {
	out := noughts(len(roots) + 1)
	for ways := range 1 << len(roots) {
		i, term := 0, one()
		for j, root := range roots {
			if ways>>j&1 > 0 {
				i++
			} else {
				term = term.times(nought().less(root))
			}
		}
		out[i] = out[i].plus(term)
	}
	return out
}
