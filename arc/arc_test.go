package arc_test

import (
	"math"
	"testing"

	"glazier/api"
	"glazier/arc"
	"glazier/band"
)

func rc(x, y, w, h int) api.Rect { return api.Rect{X: x, Y: y, W: w, H: h} }

const m = api.MaxCoord

func want[T comparable](t *testing.T, what string, got, wanted T) {
	t.Helper()
	if got != wanted {
		t.Errorf("%s: %v, wanted %v", what, got, wanted)
	}
}

// P21.1, P21.2, P21.3: against the words, pixel by pixel.
func TestPixels(t *testing.T) {
	for w := 1; w < 14; w++ {
		for h := 1; h < 14; h++ {
			r := rc(-3, 5, w, h)
			in := func(x, y int) bool {
				a, b := 2*(x+3)+1-w, 2*(y-5)+1-h
				return x >= -3 && x < w-3 && y >= 5 && y < 5+h && a*a*h*h+b*b*w*w <= w*w*h*h
			}
			d, e := arc.Disc(r)
			g, f := arc.Ring(r)
			want(t, "errors", e == api.OK && f == api.OK, true)
			want(t, "box", d.Box(), g.Box())
			for y := 4; y <= 5+h; y++ {
				from, to, ok := arc.Span(r, y)
				n := 0
				for x := -4; x <= w-3; x++ {
					want(t, "Inside", arc.Inside(r, x, y), in(x, y))
					want(t, "Disc", d.Has(x, y), in(x, y))
					want(t, "Ring", g.Has(x, y), in(x, y) && !(in(x-1, y) && in(x+1, y) && in(x, y-1) && in(x, y+1)))
					want(t, "Span", ok && from <= x && x < to, in(x, y))
					want(t, "across", in(x, y), in(w-7-x, y))
					want(t, "upside down", in(x, y), in(x, h+9-y))
					if in(x, y) {
						n++
					}
				}
				want(t, "Span", ok == (n > 0) && to-from == n, true)
			}
		}
	}
}

// P21.1, P21.2
func TestEdges(t *testing.T) {
	g, _ := arc.Ring(rc(0, 0, 4, 4))
	d, _ := arc.Disc(rc(0, 0, 3, 1))
	want(t, "examples", g.Area() == 8 && band.Same(d, band.Of(rc(0, 0, 3, 1))), true)
	for _, x := range []struct {
		r api.Rect
		e api.Errno
	}{
		{rc(-m-1, 0, 0, 0), api.ErrRange}, {rc(0, m+1, 1, 1), api.ErrRange}, {rc(math.MinInt, 0, 1, 1), api.ErrRange}, {rc(m, 0, 0, 1), api.ErrSize}, {rc(0, 0, 1, 4097), api.ErrSize}, {rc(0, 0, -1, 1), api.ErrSize}, {rc(0, 0, math.MaxInt, 1), api.ErrSize},
		{rc(m, 0, 1, 1), api.ErrRange}, {rc(0, m-3, 1, 4), api.ErrRange}, {rc(m-4096, -m, 4096, 4096), api.OK},
	} {
		d, e := arc.Disc(x.r)
		want(t, "Disc", e, x.e)
		g, f := arc.Ring(x.r)
		want(t, "Ring", f, x.e)
		want(t, "empty", d.Empty() && g.Empty(), e != api.OK)
		_, _, ok := arc.Span(x.r, x.r.Y+x.r.H/2)
		want(t, "Span", ok, e == api.OK)
		want(t, "Inside", arc.Inside(x.r, x.r.X+x.r.W/2, x.r.Y+x.r.H/2), e == api.OK)
	}
	from, to, ok := arc.Span(rc(0, 0, 3, 3), 9)
	want(t, "no row", from == 0 && to == 0 && !ok, true)
}
