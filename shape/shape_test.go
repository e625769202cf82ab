package shape_test

import (
	"math/rand"
	"strings"
	"testing"

	"glazier/api"
	"glazier/band"
	"glazier/region"
	"glazier/shape"
)

func rc(x, y, w, h int) api.Rect { return api.Rect{X: x, Y: y, W: w, H: h} }

const m = api.MaxCoord

func want[T comparable](t *testing.T, what string, got, wanted T) {
	t.Helper()
	if got != wanted {
		t.Errorf("%s: %v, wanted %v", what, got, wanted)
	}
}

func some(rnd *rand.Rand) band.Region {
	var l []api.Rect
	for range rnd.Intn(7) {
		l = append(l, rc(rnd.Intn(9), rnd.Intn(9), rnd.Intn(7), rnd.Intn(7)))
	}
	return band.Of(l...)
}

// P15.1
func TestBitmaps(t *testing.T) {
	r, e := shape.Of(3, 2, "\x05\x02")
	want(t, "Of", e == api.OK && band.Same(r, band.Of(rc(0, 0, 1, 1), rc(2, 0, 1, 1), rc(1, 1, 1, 1))), true)
	for _, x := range []struct {
		w, h int
		b    string
		e    api.Errno
	}{
		{0, 1, "", api.ErrSize}, {1, 0, "", api.ErrSize}, {129, 1, "", api.ErrSize}, {1, 129, "", api.ErrSize}, {-1, 1, "", api.ErrSize},
		{9, 2, "abc", api.ErrShort}, {9, 2, "a\xff\xff\xff\xff", api.ErrLong}, {9, 1, "\x00\x02", api.ErrForm}, {9, 1, "\x00\x01", api.OK}, {8, 1, "\xff", api.OK}, {128, 128, strings.Repeat("\xff", 2048), api.OK},
	} {
		r, e := shape.Of(x.w, x.h, x.b)
		want(t, "Of", e, x.e)
		want(t, "Of", e == api.OK || r.Empty(), true)
		b, f := shape.Bits(r, x.w, x.h)
		want(t, "Bits", f == api.ErrSize, x.e == api.ErrSize)
		want(t, "P15.4", e != api.OK || b == x.b, true)
	}
	b, _ := shape.Bits(band.Of(rc(-5, -5, 7, 6), rc(8, 1, 99, 99)), 9, 2)
	want(t, "Bits", b, "\x03\x00\x00\x01")
}

// P15.2
func TestGrow(t *testing.T) {
	g, e := shape.Grow(band.Of(rc(5, 5, 1, 1)), 1)
	want(t, "Grow", e == api.OK && band.Same(g, band.Of(rc(4, 4, 3, 3))), true)
	want(t, "Edge", shape.Edge(g).Area(), 8)
	for _, n := range []int{-129, 129, 1 << 62, -1 << 62} {
		g, e := shape.Grow(g, n)
		want(t, "Grow", e == api.ErrRange && g.Empty(), true)
	}
	far := band.Of(rc(m-1, 0, 1, 1))
	_, e = shape.Grow(far, 1)
	want(t, "Grow", e, api.ErrSize)
	_, e = shape.Grow(far, 0)
	want(t, "Grow", e, api.OK)
	g, e = shape.Grow(far, -128)
	want(t, "Grow", e == api.OK && g.Empty(), true)
	g, e = shape.Grow(band.Of(rc(-m, -m, 2*m, 2*m)), -128)
	want(t, "Grow", e == api.OK && g.Box() == rc(-m+128, -m+128, 2*m-256, 2*m-256), true)
	g, e = shape.Grow(band.Region{}, 128)
	want(t, "Grow", e == api.OK && g.Empty(), true)
	rnd := rand.New(rand.NewSource(5))
	for i := range 60 {
		r, n := some(rnd), 1+i%3
		up, _ := shape.Grow(r, n)
		down, _ := shape.Grow(r, -n)
		for x := -3; x < 19; x++ {
			for y := -3; y < 19; y++ {
				any, all := false, true
				for dx := -n; dx <= n; dx++ {
					for dy := -n; dy <= n; dy++ {
						any, all = any || r.Has(x+dx, y+dy), all && r.Has(x+dx, y+dy)
					}
				}
				want(t, "up", up.Has(x, y), any)
				want(t, "down", down.Has(x, y), all)
				edge := r.Has(x, y) && !(r.Has(x-1, y) && r.Has(x+1, y) && r.Has(x, y-1) && r.Has(x, y+1))
				want(t, "Edge", shape.Edge(r).Has(x, y), edge)
			}
		}
		back, _ := shape.Grow(up, -n)
		want(t, "P15.4", region.Inside(r, back), true)
	}
}

// P15.3, P15.4
func TestFlip(t *testing.T) {
	r := band.Of(rc(-2, 0, 4, 1), rc(3, 1, 5, 2))
	want(t, "across", band.Same(shape.Flip(r, 5, 2, true), band.Of(rc(3, 0, 2, 1), rc(0, 1, 2, 1))), true)
	want(t, "down", band.Same(shape.Flip(r, 5, 2, false), band.Of(rc(0, 1, 2, 1), rc(3, 0, 2, 1))), true)
	corner := band.Of(rc(0, 0, 2, 1))
	want(t, "across", band.Same(shape.Flip(corner, 5, 3, true), band.Of(rc(3, 0, 2, 1))), true)
	want(t, "down", band.Same(shape.Flip(corner, 5, 3, false), band.Of(rc(0, 2, 2, 1))), true)
	one := band.Of(rc(0, 0, 1, 1))
	for _, a := range []bool{false, true} {
		want(t, "one place", band.Same(shape.Flip(r, 1, 1, a), one) && shape.Flip(one, 1, 2, a).Area() == 1 && shape.Flip(one, 2, 1, a).Area() == 1, true)
		want(t, "none", shape.Flip(r, 0, 2, a).Empty() && shape.Flip(r, 2, 0, a).Empty() && shape.Flip(r, m+1, 2, a).Empty() && shape.Flip(r, 2, m+1, a).Empty(), true)
		want(t, "twice", band.Same(shape.Flip(shape.Flip(r, m, 3, a), m, 3, a), region.Within(r, rc(0, 0, m, 3))), true)
	}
	want(t, "Edge", band.Same(shape.Edge(band.Of(rc(m-3, 0, 3, 3))), region.Minus(band.Of(rc(m-3, 0, 3, 3)), band.Of(rc(m-2, 1, 1, 1)))), true)
}
