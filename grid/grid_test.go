package grid_test

import (
	"math"
	"math/rand"
	"testing"

	"glazier/api"
	"glazier/band"
	"glazier/grid"
)

func rc(x, y, w, h int) api.Rect { return api.Rect{X: x, Y: y, W: w, H: h} }

const m = api.MaxCoord

func want[T comparable](t *testing.T, what string, got, wanted T) {
	t.Helper()
	if got != wanted {
		t.Errorf("%s: %v, wanted %v", what, got, wanted)
	}
}

func must(t *testing.T, w, h int, p api.Pixel) grid.Grid {
	t.Helper()
	g, e := grid.New(w, h, p)
	want(t, "New", e, api.OK)
	return g
}

// P17.1, P17.2
func TestOne(t *testing.T) {
	for _, s := range [][2]int{{0, 1}, {1, 0}, {129, 1}, {1, 129}, {-1, 5}} {
		g, e := grid.New(s[0], s[1], 5)
		want(t, "New", e == api.ErrSize && grid.Same(g, grid.Grid{}), true)
	}
	g := must(t, 3, 2, 7)
	h := g.Set(1, 0, 9)
	want(t, "Row", h.Row(0)+h.Row(1), "\x07\x09\x07\x07\x07\x07")
	want(t, "Row", h.Row(-1)+h.Row(2)+grid.Grid{}.Row(0), "")
	want(t, "At", h.At(1, 0) == 9 && h.At(0, 1) == 7 && h.At(3, 0) == 0 && h.At(-1, 0) == 0 && h.At(0, 2) == 0 && g.At(1, 0) == 7, true)
	w, hh := h.Size()
	want(t, "Size", w*10+hh, 32)
	want(t, "Same", grid.Same(g, h) || !grid.Same(g, h.Set(1, 0, 7)) || grid.Same(g, must(t, 2, 3, 7)), false)
	for _, p := range [][2]int{{3, 0}, {-1, 0}, {0, 2}, {0, -1}, {math.MaxInt, 0}} {
		want(t, "Set", grid.Same(g.Set(p[0], p[1], 1), g), true)
	}
	f := g.Fill(band.Of(rc(-9, -9, 11, 10), rc(2, 1, 99, 99)), 4)
	want(t, "Fill", f.Row(0)+f.Row(1), "\x04\x04\x07\x07\x07\x04")
	want(t, "Fill", grid.Same(f.Fill(band.Of(rc(0, 0, 3, 2)), 8), must(t, 3, 2, 8)) && grid.Same(g, must(t, 3, 2, 7)), true)
	want(t, "zero", grid.Same(grid.Grid{}.Fill(band.Of(rc(0, 0, 9, 9)), 1), grid.Grid{}) && grid.Same(grid.Grid{}.Set(0, 0, 1), grid.Grid{}), true)
}

// P17.3
func TestCropAndLay(t *testing.T) {
	g := must(t, 3, 2, 7).Set(1, 0, 9)
	c, e := g.Crop(rc(2, 0, 2, 1), 0)
	want(t, "Crop", e == api.OK && c.Row(0) == "\x07\x00", true)
	for _, x := range []struct {
		r api.Rect
		e api.Errno
	}{{rc(0, 0, 0, 1), api.ErrSize}, {rc(m+1, 0, 129, 1), api.ErrSize}, {rc(m+1, 0, 1, 1), api.ErrRange}, {rc(0, -m-1, 1, 1), api.ErrRange}, {rc(m, -m, 128, 128), api.OK}, {rc(math.MinInt, 0, 1, 1), api.ErrRange}} {
		c, e := g.Crop(x.r, 5)
		want(t, "Crop", e, x.e)
		want(t, "Crop", c.At(0, 0) == 5, e == api.OK)
	}
	h := must(t, 2, 2, 1)
	l := g.Lay(h, 2, -1, band.Of(rc(0, 0, 9, 9)))
	want(t, "Lay", l.Row(0)+l.Row(1), "\x07\x09\x01\x07\x07\x07")
	l = g.Lay(h, 0, 0, band.Of(rc(1, 1, 1, 1)))
	want(t, "Lay", l.Row(0)+l.Row(1), "\x07\x09\x07\x07\x01\x07")
	for _, x := range []int{m + 1, -m - 1, math.MaxInt, math.MinInt} {
		all := band.Of(rc(-m, -m, 2*m, 2*m))
		want(t, "Lay", grid.Same(g.Lay(h, x, 0, all), g) && grid.Same(g.Lay(h, 0, x, all), g), true)
	}
}

// P17.4
func TestFollows(t *testing.T) {
	rnd := rand.New(rand.NewSource(2))
	for range 100 {
		g := must(t, 5, 4, 3)
		for range 9 {
			g = g.Set(rnd.Intn(5), rnd.Intn(4), api.Pixel(rnd.Intn(256)))
		}
		r := rc(rnd.Intn(9)-4, rnd.Intn(9)-4, 1+rnd.Intn(6), 1+rnd.Intn(6))
		whole, _ := g.Crop(rc(0, 0, 5, 4), 0)
		want(t, "whole", grid.Same(whole, g), true)
		c, _ := g.Crop(r, 77)
		for x := range r.W {
			for y := range r.H {
				p := api.Pixel(77)
				if q := (api.Point{X: x + r.X, Y: y + r.Y}); q.X >= 0 && q.X < 5 && q.Y >= 0 && q.Y < 4 {
					p = g.At(q.X, q.Y)
				}
				want(t, "Crop", c.At(x, y), p)
			}
		}
		want(t, "laid again", grid.Same(g.Lay(c, r.X, r.Y, band.Of(r)), g), true)
	}
}
