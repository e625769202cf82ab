package region_test

import (
	"math"
	"math/rand"
	"testing"

	"glazier/api"
	"glazier/band"
	"glazier/region"
)

func rc(x, y, w, h int) api.Rect { return api.Rect{X: x, Y: y, W: w, H: h} }

const m = api.MaxCoord

func want[T comparable](t *testing.T, what string, got, wanted T) {
	t.Helper()
	if got != wanted {
		t.Errorf("%s: %v, wanted %v", what, got, wanted)
	}
}

func some(rnd *rand.Rand) band.Region {
	var l []api.Rect
	for range rnd.Intn(6) {
		l = append(l, rc(rnd.Intn(9), rnd.Intn(9), rnd.Intn(7), rnd.Intn(7)))
	}
	return band.Of(l...)
}

// P14.1
func TestExample(t *testing.T) {
	a, b := band.Of(rc(0, 0, 3, 3)), band.Of(rc(1, 1, 3, 3))
	want(t, "Union", region.Union(a, b).Area(), 14)
	want(t, "Meet", region.Meet(a, b).Area(), 4)
	want(t, "Minus", region.Minus(a, b).Area(), 5)
	want(t, "Xor", region.Xor(a, b).Area(), 10)
	want(t, "Inside", region.Inside(region.Meet(a, b), a) && !region.Inside(a, b) && region.Inside(band.Region{}, band.Region{}) && region.Inside(a, a), true)
}

// P14.1, P14.3: by each place.
func TestPlaces(t *testing.T) {
	rnd := rand.New(rand.NewSource(3))
	for range 200 {
		a, b, c := some(rnd), some(rnd), some(rnd)
		all := true
		for x := -1; x < 17; x++ {
			for y := -1; y < 17; y++ {
				p, q := a.Has(x, y), b.Has(x, y)
				want(t, "Union", region.Union(a, b).Has(x, y), p || q)
				want(t, "Meet", region.Meet(a, b).Has(x, y), p && q)
				want(t, "Minus", region.Minus(a, b).Has(x, y), p && !q)
				want(t, "Xor", region.Xor(a, b).Has(x, y), p != q)
				all = all && (!p || q)
			}
		}
		want(t, "Inside", region.Inside(a, b), all)
		want(t, "order", band.Same(region.Union(a, region.Union(b, c)), region.Union(region.Union(c, b), a)) && band.Same(region.Xor(a, region.Xor(b, c)), region.Xor(region.Xor(c, b), a)) && band.Same(region.Meet(a, region.Meet(b, c)), region.Meet(region.Meet(c, b), a)), true)
		want(t, "parts", band.Same(region.Union(region.Meet(a, b), region.Minus(a, b)), a) && region.Meet(a, b).Area()+region.Minus(a, b).Area() == a.Area(), true)
		want(t, "canon", band.Canon(region.Xor(a, b).Rects()...), true)
		want(t, "back", band.Same(region.Shift(region.Shift(a, 5, -9), -5, 9), a), true)
		want(t, "Within", band.Same(region.Within(a, rc(2, 3, 4, 5)), region.Meet(a, band.Of(rc(2, 3, 4, 5)))), true)
	}
}

// P14.2
func TestShift(t *testing.T) {
	a := band.Of(rc(0, 0, 4, 2), rc(6, 1, 2, 2))
	want(t, "Shift", region.Shift(a, 2, 3).Box(), rc(2, 3, 8, 3))
	want(t, "at the edge", band.Same(region.Shift(a, m-3, 0), band.Of(rc(m-3, 0, 3, 2))), true)
	want(t, "at the edge", band.Same(region.Shift(a, -m-3, -m-1), band.Of(rc(-m, -m, 1, 1), rc(-m+3, -m, 2, 2))), true)
	all := band.Of(rc(-m, -m, 2*m, 2*m))
	want(t, "one place", band.Same(region.Shift(all, 2*m-1, -2*m+1), band.Of(rc(m-1, -m, 1, 1))), true)
	for _, d := range []int{2 * m, -2 * m, math.MaxInt, math.MinInt, math.MinInt + 5} {
		want(t, "far", region.Shift(all, d, 0).Empty() && region.Shift(all, 0, d).Empty(), true)
	}
	want(t, "Within", region.Within(all, rc(0, 0, 0, 5)).Empty() && region.Within(all, rc(m, 0, 1, 1)).Empty(), true)
}
