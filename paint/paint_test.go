package paint_test

import (
	"math"
	"math/rand"
	"testing"

	"glazier/api"
	"glazier/band"
	"glazier/grid"
	"glazier/paint"
	"glazier/pen"
	"glazier/region"
	"glazier/rop"
	"glazier/sheet"
)

func rc(x, y, w, h int) api.Rect { return api.Rect{X: x, Y: y, W: w, H: h} }
func pt(x, y int) api.Point      { return api.Point{X: x, Y: y} }

func want[T comparable](t *testing.T, what string, got, wanted T) {
	t.Helper()
	if got != wanted {
		t.Errorf("%s: %v, wanted %v", what, got, wanted)
	}
}

var all = rc(-99, -99, 299, 299)

func blank(w, h int) grid.Grid {
	g, _ := grid.New(w, h, 0)
	return g
}

func random(rnd *rand.Rand, w, h int) grid.Grid {
	g, _ := sheet.Make(w, h, func(_, _ int) api.Pixel { return api.Pixel(rnd.Intn(256)) })
	return g
}

func some(rnd *rand.Rand) band.Region {
	var l []api.Rect
	for range 3 {
		l = append(l, rc(rnd.Intn(9)-2, rnd.Intn(9)-2, 1+rnd.Intn(5), 1+rnd.Intn(5)))
	}
	return band.Of(l...)
}

// P23.2, P23.3: the chapter's examples.
func TestExamples(t *testing.T) {
	p := pen.New()
	p.Fore, p.Func = 5, rop.Xor
	g := paint.Rects(blank(3, 2), band.Of(all), p, rc(0, 0, 2, 1), rc(1, 0, 1, 1))
	want(t, "Rects", g.Row(0)+g.Row(1), "\x05\x00\x00\x00\x00\x00")
	g = paint.Tile(blank(3, 2), band.Of(all), band.Of(all), blank(2, 1).Set(0, 0, 1).Set(1, 0, 2), 1, 0)
	want(t, "Tile", g.Row(0)+g.Row(1), "\x02\x01\x02\x02\x01\x02")
	g = paint.Points(blank(3, 2), band.Of(rc(0, 0, 2, 2)), p, pt(0, 0), pt(1, 1), pt(0, 0), pt(2, 0), pt(1, 1), pt(1, 1), pt(-1, 0), pt(math.MaxInt, 0))
	want(t, "Points", g.Row(0)+g.Row(1), "\x00\x00\x00\x00\x05\x00")
	g = paint.Points(blank(3, 2), band.Of(all), p, pt(1, 0))
	want(t, "one point", g.Row(0)+g.Row(1), "\x00\x05\x00\x00\x00\x00")
	g = paint.Tile(blank(3, 2), band.Of(all), band.Of(all), blank(1, 1).Set(0, 0, 7), -1<<20, 1<<20)
	want(t, "far tile", g.Row(0), "\x07\x07\x07")
	g = paint.Rects(blank(3, 2), band.Of(all), p, rc(0, 0, 0, 2), rc(-1<<20-1, 0, 1<<21, 9), api.Rect{}, rc(2, 1, 100, 100))
	want(t, "Rects", g.Row(0)+g.Row(1), "\x00\x00\x00\x00\x00\x05")
}

// P23.1, P23.2, P23.3, P23.4: place by place.
func TestPlaces(t *testing.T) {
	rnd := rand.New(rand.NewSource(9))
	for op := range 16 {
		g, tile, clip, what, other := random(rnd, 6, 5), random(rnd, 3, 4), some(rnd), some(rnd), some(rnd)
		p := pen.Pen{Func: op, Planes: api.Pixel(rnd.Intn(256)), Fore: api.Pixel(rnd.Intn(256)), Back: api.Pixel(rnd.Intn(256))}
		fore, back, tiled := paint.Region(g, clip, what, p), paint.Back(g, clip, what, p), paint.Tile(g, clip, what, tile, -7, 5)
		l := []api.Rect{rc(0, 0, 3, 3), rc(1, 1, 4, 2), rc(1, 2, 1, 1), rc(1, 2, 1, 1)}
		rects := paint.Rects(g, clip, p, l...)
		one := g
		for _, r := range l {
			one = paint.Region(one, clip, band.Of(r), p)
		}
		want(t, "Rects", grid.Same(rects, one), true)
		for x := range 6 {
			for y := range 5 {
				a, b, c := g.At(x, y), g.At(x, y), g.At(x, y)
				if clip.Has(x, y) && what.Has(x, y) {
					a, b, c = rop.Mix(op, p.Fore, a, p.Planes), rop.Mix(op, p.Back, a, p.Planes), tile.At((x+7)%3, (y+3)%4)
				}
				want(t, "Region", fore.At(x, y), a)
				want(t, "Back", back.At(x, y), b)
				want(t, "Tile", tiled.At(x, y), c)
				want(t, "planes", (rects.At(x, y)^g.At(x, y))&^p.Planes, 0)
			}
		}
		two := paint.Region(paint.Region(g, clip, region.Minus(what, other), p), clip, region.Meet(what, other), p)
		want(t, "parts", grid.Same(two, fore), true)
		want(t, "tile again", grid.Same(paint.Tile(tiled, clip, what, tile, -7, 5), tiled), true)
	}
}

// Wrong pens, tiles and places.
func TestWrong(t *testing.T) {
	g := blank(3, 2).Set(1, 1, 8)
	for _, p := range []pen.Pen{{Func: 16, Fore: 5, Planes: 255}, {Func: 3, Fore: 5, Planes: 255, X: 40000}} {
		r := band.Of(all)
		want(t, "pen", grid.Same(paint.Region(g, r, r, p), g) && grid.Same(paint.Back(g, r, r, p), g) && grid.Same(paint.Points(g, r, p, pt(0, 0)), g) && grid.Same(paint.Rects(g, r, p, all), g), true)
	}
	for _, x := range []int{1<<20 + 1, -1<<20 - 1, math.MinInt} {
		want(t, "Tile", grid.Same(paint.Tile(g, band.Of(all), band.Of(all), blank(1, 1), x, 0), g) && grid.Same(paint.Tile(g, band.Of(all), band.Of(all), blank(1, 1), 0, x), g), true)
	}
	want(t, "Tile", grid.Same(paint.Tile(g, band.Of(all), band.Of(all), grid.Grid{}, 0, 0), g), true)
	p := pen.New()
	p.Clipped = true // the pen's own clip isn't looked at
	want(t, "own clip", paint.Region(g, band.Of(all), band.Of(all), p).At(1, 1), 0)
	want(t, "zero grid", grid.Same(paint.Points(grid.Grid{}, band.Of(all), p, pt(0, 0)), grid.Grid{}), true)
}
