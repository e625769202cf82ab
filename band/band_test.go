package band_test

import (
	"math"
	"math/rand"
	"slices"
	"testing"

	"glazier/api"
	"glazier/band"
)

type r = api.Rect

func rc(x, y, w, h int) r { return r{X: x, Y: y, W: w, H: h} }

const m = api.MaxCoord

func want[T comparable](t *testing.T, what string, got, wanted T) {
	t.Helper()
	if got != wanted {
		t.Errorf("%s: %v, wanted %v", what, got, wanted)
	}
}

// P13.1
func TestOf(t *testing.T) {
	a := band.Of(rc(0, 0, 4, 2), rc(2, 1, 4, 2))
	want(t, "Rects", slices.Equal(a.Rects(), []r{rc(0, 0, 4, 1), rc(0, 1, 6, 1), rc(2, 2, 4, 1)}), true)
	want(t, "Area", a.Area(), 14)
	want(t, "Box", a.Box(), rc(0, 0, 6, 3))
	want(t, "Empty", a.Empty(), false)
	want(t, "Has", a.Has(0, 1) && a.Has(5, 2) && !a.Has(0, 2) && !a.Has(5, 0) && !a.Has(6, 1) && !a.Has(3, 3) && !a.Has(3, -1), true)
	for _, x := range []r{rc(0, 0, 0, 1), rc(0, 0, 1, 0), rc(0, 0, -1, 1), rc(-m-1, 0, 2, 1), rc(m, 0, 1, 1), rc(0, m-1, 1, 2), rc(math.MaxInt, 0, math.MaxInt, 1), rc(0, math.MinInt, 1, math.MaxInt)} {
		b := band.Of(x)
		want(t, "no places", b.Empty() && b.Area() == 0 && b.Box() == r{} && len(b.Rects()) == 0 && !b.Has(x.X, x.Y), true)
		want(t, "Canon", band.Canon(x), false)
		want(t, "Of", band.Same(band.Of(x, rc(0, 0, 1, 1)), band.Of(rc(0, 0, 1, 1))), true)
	}
	want(t, "all", band.Of(rc(-m, -m, 2*m, 2*m)).Area(), 4*m*m)
	want(t, "a gap", slices.Equal(band.Of(rc(0, 0, 1, 1), rc(0, 2, 1, 1)).Rects(), []r{rc(0, 0, 1, 1), rc(0, 2, 1, 1)}), true)
	want(t, "touching bands", len(band.Of(rc(0, 0, 1, 1), rc(0, 1, 1, 5)).Rects()), 1)
	a.Rects()[0].X = 99
	want(t, "shared", a.Rects()[0].X, 0)
	want(t, "Canon", band.Canon() && band.Canon(rc(0, 0, 4, 1), rc(0, 1, 6, 1)), true)
	want(t, "Canon", band.Canon(rc(0, 1, 6, 1), rc(0, 0, 4, 1)) || band.Canon(rc(0, 0, 4, 1), rc(0, 1, 4, 1)) || band.Canon(rc(0, 0, 1, 1), rc(1, 0, 1, 1)) || band.Canon(r{}), false)
}

// P13.1, P13.2: by each place.
func TestPlaces(t *testing.T) {
	rnd := rand.New(rand.NewSource(7))
	for range 300 {
		var l []r
		for range rnd.Intn(9) {
			l = append(l, rc(rnd.Intn(10), rnd.Intn(10), rnd.Intn(6), rnd.Intn(6)))
		}
		a := band.Of(l...)
		has := func(l []r, x, y int) int {
			n := 0
			for _, q := range l {
				if q.X <= x && x < q.X+q.W && q.Y <= y && y < q.Y+q.H {
					n++
				}
			}
			return n
		}
		area := 0
		for x := -1; x < 17; x++ {
			for y := -1; y < 17; y++ {
				want(t, "Has", a.Has(x, y), has(l, x, y) > 0)
				want(t, "once", has(a.Rects(), x, y), map[bool]int{true: 1}[a.Has(x, y)])
				if a.Has(x, y) {
					area++
				}
			}
		}
		want(t, "Area", a.Area(), area)
		box := a.Box()
		least := rc(99, 99, -99, -99)
		for _, q := range a.Rects() {
			least = rc(min(least.X, q.X), min(least.Y, q.Y), max(least.W, q.X+q.W), max(least.H, q.Y+q.H))
		}
		want(t, "Box", a.Empty() && box == r{} || box == rc(least.X, least.Y, least.W-least.X, least.H-least.Y), true)
		want(t, "Canon", band.Canon(a.Rects()...), true)
		turned := slices.Clone(l)
		slices.Reverse(turned)
		for _, q := range l {
			if q.W > 1 {
				turned = append(turned, rc(q.X, q.Y, 1, q.H), rc(q.X+1, q.Y, q.W-1, q.H))
			}
		}
		want(t, "Same", band.Same(a, band.Of(turned...)) && slices.Equal(a.Rects(), band.Of(turned...).Rects()), true)
		want(t, "one more", band.Same(a, band.Of(append(l, rc(20, 20, 1, 1))...)), false)
		rs := a.Rects()
		for i := 1; i < len(rs); i++ {
			p, q := rs[i-1], rs[i]
			want(t, "bands", p.Y == q.Y && p.H == q.H && p.X+p.W < q.X || p.Y+p.H <= q.Y, true)
		}
	}
}

func TestMany(t *testing.T) {
	var l []r
	for i := range 65536 {
		l = append(l, rc(i%1000*2, i/1000*2, 1, 1))
	}
	want(t, "Area", band.Of(l...).Area(), 65536)
}
