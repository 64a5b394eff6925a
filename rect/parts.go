package rect

import "annulus/api"

// A rectangle's parts.
const (
	re = iota
	im
)

// parts: both parts of x. Their ends lie where x's lie, so a call must not tell
// them.
func parts(x api.Rect) [2]api.Real { return [2]api.Real{re: x.Re, im: x.Im} }

// joined: the rectangle of such parts.
func joined(p [2]api.Real) api.Rect { return api.Rect{Re: p[re], Im: p[im]} }

// each tells what f makes of each part of x.
func each(x api.Rect, f func(x api.Real) api.Real) api.Rect {
	a := parts(x)
	for i := range a {
		a[i] = f(a[i])
	}
	return joined(a)
}

// pairs tells what f makes of each part of x and that of y.
func pairs(x, y api.Rect, f func(x, y api.Real) api.Real) api.Rect {
	a, b := parts(x), parts(y)
	for i := range a {
		a[i] = f(a[i], b[i])
	}
	return joined(a)
}

// both tells whether f holds of each part of x and that of y.
func both(x, y api.Rect, f func(x, y api.Real) bool) bool {
	a, b := parts(x), parts(y)
	for i := range a {
		if !f(a[i], b[i]) {
			return false
		}
	}
	return true
}
