package nat

// Root tells the greatest number whose square isn't more than a.
func Root(a []uint32) []uint32 {
	a = cut(a)
	if len(a) == 0 {
		return nil
	}
	// Newton's steps from above fall until they are there.
	x := above(a)
	for {
		quotient, _, _ := Div(a, x)
		next := cut(down(Add(x, quotient), 1))
		if Cmp(next, x) >= 0 {
			return x
		}
		x = next
	}
}

// above: more than the root of a. The root of a's upper half is so near that
// a step or two are left, however long a is.
func above(a []uint32) []uint32 {
	quarter := Bits(a) / 4
	if quarter == 0 {
		return []uint32{3}
	}
	half := Root(down(a, 2*quarter))
	return cut(up(Add(half, []uint32{1}), quarter))
}
