package blit_test

import (
	"math"
	"math/rand"
	"testing"

	"glazier/api"
	"glazier/band"
	"glazier/blit"
	"glazier/grid"
	"glazier/pen"
	"glazier/region"
	"glazier/rop"
	"glazier/sheet"
)

func rc(x, y, w, h int) api.Rect { return api.Rect{X: x, Y: y, W: w, H: h} }

func want[T comparable](t *testing.T, what string, got, wanted T) {
	t.Helper()
	if got != wanted {
		t.Errorf("%s: %v, wanted %v", what, got, wanted)
	}
}

var all = band.Of(rc(-99, -99, 299, 299))

func random(rnd *rand.Rand, w, h int) grid.Grid {
	g, _ := sheet.Make(w, h, func(_, _ int) api.Pixel { return api.Pixel(rnd.Intn(256)) })
	return g
}

func some(rnd *rand.Rand) band.Region {
	var l []api.Rect
	for range 4 {
		l = append(l, rc(rnd.Intn(9)-2, rnd.Intn(9)-2, 1+rnd.Intn(5), 1+rnd.Intn(5)))
	}
	return band.Of(l...)
}

// P24.1, P24.2: the chapter's examples.
func TestExamples(t *testing.T) {
	g, _ := sheet.Make(4, 1, func(x, _ int) api.Pixel { return api.Pixel(x + 1) })
	h, miss := blit.Within(g, all, all, rc(0, 0, 3, 1), 1, 0, pen.New())
	want(t, "Within", h.Row(0), "\x01\x01\x02\x03")
	want(t, "missing", miss.Empty(), true)
	h, miss = blit.Scroll(g, all, 1, 0, pen.New())
	want(t, "Scroll", h.Row(0), "\x01\x01\x02\x03")
	want(t, "missing", band.Same(miss, band.Of(rc(0, 0, 1, 1))), true)
	h, miss = blit.Within(g, all, all, rc(-2, 0, 4, 1), 0, 0, pen.New())
	want(t, "Within", h.Row(0), "\x01\x02\x01\x02")
	want(t, "missing", band.Same(miss, band.Of(rc(0, 0, 2, 1))), true)
}

// P24.1, P24.2, P24.3: place by place.
func TestPlaces(t *testing.T) {
	rnd := rand.New(rand.NewSource(8))
	for i := range 200 {
		src, dst, from, clip := random(rnd, 6, 5), random(rnd, 5, 7), some(rnd), some(rnd)
		s, x, y := rc(rnd.Intn(8)-3, rnd.Intn(8)-3, 1+rnd.Intn(7), 1+rnd.Intn(7)), rnd.Intn(8)-3, rnd.Intn(8)-3
		p := pen.Pen{Func: i % 16, Planes: api.Pixel(rnd.Intn(256))}
		if i < 100 {
			p = pen.New()
		}
		a, miss := blit.Area(src, dst, from, clip, s, x, y, p)
		w, miss2 := blit.Within(src, from, clip, s, x, y, p)
		w3, miss3 := blit.Area(src, src, from, clip, s, x, y, p)
		want(t, "Within", grid.Same(w, w3) && band.Same(miss2, miss3), true)
		sc, gone := blit.Scroll(src, clip, x, y, p)
		m := blit.Missing(from, clip, s, x, y)
		for px := -4; px < 12; px++ {
			for py := -4; py < 12; py++ {
				fx, fy := px-x+s.X, py-y+s.Y
				to := px >= x && px < x+s.W && py >= y && py < y+s.H && clip.Has(px, py)
				has := fx >= 0 && fx < 6 && fy >= 0 && fy < 5 && from.Has(fx, fy)
				in := px >= 0 && px < 5 && py >= 0 && py < 7
				v := dst.At(px, py)
				if to && has && in {
					v = rop.Mix(p.Func, src.At(fx, fy), v, p.Planes)
				}
				want(t, "Area", a.At(px, py), v)
				want(t, "missing", miss.Has(px, py), to && in && !has)
				want(t, "Missing", m.Has(px, py), to && !from.Has(fx, fy))
				own := func(x, y int) bool { return x >= 0 && x < 6 && y >= 0 && y < 5 && clip.Has(x, y) }
				v = src.At(px, py)
				if own(px, py) && own(px-x, py-y) {
					v = rop.Mix(p.Func, src.At(px-x, py-y), v, p.Planes)
				}
				want(t, "Scroll", sc.At(px, py), v)
				want(t, "gone", gone.Has(px, py), own(px, py) && !own(px-x, py-y))
			}
		}
	}
}

// Copies that are none, wrong pens, far moves.
func TestNone(t *testing.T) {
	g := random(rand.New(rand.NewSource(1)), 4, 3)
	for _, x := range []struct {
		s    api.Rect
		x, y int
	}{{rc(0, 0, 0, 1), 0, 0}, {rc(0, 0, 2, 2), math.MaxInt, 0}, {rc(0, 0, 2, 2), 0, math.MinInt}, {rc(0, 0, 2, 2), 1<<20 - 1, 0}, {rc(math.MaxInt, 0, 2, 2), 0, 0}} {
		h, miss := blit.Area(g, g, all, all, x.s, x.x, x.y, pen.New())
		want(t, "none", grid.Same(h, g) && miss.Empty() && blit.Missing(band.Region{}, all, x.s, x.x, x.y).Empty(), true)
	}
	bad := pen.Pen{Func: 99}
	h, miss := blit.Area(g, g, band.Region{}, all, rc(0, 0, 2, 2), 0, 0, bad)
	k, gone := blit.Scroll(g, all, 1, 1, bad)
	want(t, "pen", grid.Same(h, g) && miss.Empty() && grid.Same(k, g) && gone.Empty(), true)
	for _, d := range []int{math.MaxInt, math.MinInt, 1 << 21, 128} {
		k, gone := blit.Scroll(g, all, d, 0, pen.New())
		want(t, "far", grid.Same(k, g) && gone.Area() == 12, true)
		k, gone = blit.Scroll(g, all, 0, d, pen.New())
		want(t, "far", grid.Same(k, g) && gone.Area() == 12, true)
	}
	want(t, "zero", region.Inside(band.Region{}, all), true)
}
