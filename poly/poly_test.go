package poly_test

import (
	"math/rand"
	"slices"
	"testing"

	"glazier/api"
	"glazier/band"
	"glazier/poly"
	"glazier/region"
)

func rc(x, y, w, h int) api.Rect { return api.Rect{X: x, Y: y, W: w, H: h} }
func pt(x, y int) api.Point      { return api.Point{X: x, Y: y} }

const m = api.MaxCoord

func want[T comparable](t *testing.T, what string, got, wanted T) {
	t.Helper()
	if got != wanted {
		t.Errorf("%s: %v, wanted %v", what, got, wanted)
	}
}

// passing counts by the words, in halves.
func passing(x, y int, l []api.Point) (down, up int) {
	for i, a := range l {
		b := l[(i+1)%len(l)]
		if y < min(a.Y, b.Y) || y >= max(a.Y, b.Y) {
			continue
		}
		n, d := (2*y+1-2*a.Y)*(b.X-a.X), b.Y-a.Y // twice how far the edge is from a.X: n / d
		at := 2*x + 1 - 2*a.X
		if d > 0 && n <= at*d {
			down++
		}
		if d < 0 && n >= at*d {
			up++
		}
	}
	return down, up
}

func corners(rnd *rand.Rand, n int) []api.Point {
	var l []api.Point
	for range n {
		l = append(l, pt(rnd.Intn(13), rnd.Intn(13)))
	}
	return l
}

// P22.1, P22.2, P22.3
func TestPlaces(t *testing.T) {
	rnd := rand.New(rand.NewSource(6))
	for range 300 {
		l := corners(rnd, 3+rnd.Intn(5))
		back := slices.Clone(l)
		slices.Reverse(back)
		later := append(slices.Clone(l[2:]), l[:2]...)
		odd, e := poly.Region(poly.EvenOdd, l...)
		wind, f := poly.Region(poly.Winding, l...)
		want(t, "Region", e == api.OK && f == api.OK, true)
		for _, o := range [][]api.Point{back, later} {
			a, _ := poly.Region(poly.EvenOdd, o...)
			b, _ := poly.Region(poly.Winding, o...)
			want(t, "told otherwise", band.Same(a, odd) && band.Same(b, wind), true)
		}
		for x := -1; x < 14; x++ {
			for y := -1; y < 14; y++ {
				down, up := passing(x, y, l)
				want(t, "Turns", poly.Turns(x, y, l...), down-up)
				want(t, "turned", poly.Turns(x, y, back...), up-down)
				want(t, "odd", poly.Inside(poly.EvenOdd, x, y, l...), (down+up)%2 == 1)
				want(t, "winding", poly.Inside(poly.Winding, x, y, l...), down != up)
				want(t, "Region", odd.Has(x, y) == ((down+up)%2 == 1) && wind.Has(x, y) == (down != up), true)
			}
		}
		want(t, "Twice", poly.Twice(l...), -poly.Twice(back...))
		// Two triangles that share an edge, and the four corners round both.
		q := corners(rnd, 4)
		one, _ := poly.Region(poly.EvenOdd, q[0], q[1], q[2])
		two, _ := poly.Region(poly.EvenOdd, q[0], q[2], q[3])
		both, _ := poly.Region(poly.EvenOdd, q...)
		want(t, "shared edge", band.Same(region.Xor(one, two), both), true)
	}
}

// P22.1
func TestWrong(t *testing.T) {
	l := []api.Point{pt(0, 0), pt(4, 0), pt(0, 4)}
	r, _ := poly.Region(0, l...)
	want(t, "example", band.Same(r, band.Of(rc(0, 0, 3, 1), rc(0, 1, 2, 1), rc(0, 2, 1, 1))) && poly.Twice(l...) == 16, true)
	want(t, "rule", poly.Inside(2, 0, 0, l...) || poly.Inside(-1, 0, 0, l...), false)
	want(t, "places", poly.Inside(0, m+1, 0, l...) || poly.Inside(0, -m-1, 0, l...) || poly.Turns(m+1, 0, l...) != 0, false)
	most := append(make([]api.Point, 253), l...)
	want(t, "256 corners", poly.Twice(most...) == 16 && poly.Inside(0, 0, 0, most...) && poly.Turns(0, 0, most...) != 0, true)
	many, e := poly.Region(0, most...)
	want(t, "256 corners", e == api.OK && many.Area() == 6, true)
	over := append(most, api.Point{})
	want(t, "257 corners", poly.Twice(over...) == 0 && !poly.Inside(0, 0, 0, over...) && poly.Turns(0, 0, over...) == 0, true)
	for _, bad := range [][]api.Point{nil, l[:2], append(slices.Clone(l), pt(m+1, 0)), append(slices.Clone(l), pt(0, -m-1)), make([]api.Point, 257)} {
		want(t, "corners", poly.Inside(0, 0, 0, bad...) || poly.Turns(0, 0, bad...) != 0 || poly.Twice(bad...) != 0, false)
	}
}

// P22.2, P22.3
func TestRegion(t *testing.T) {
	far := pt(m+1, 0)
	for _, x := range []struct {
		rule int
		l    []api.Point
		e    api.Errno
	}{
		{2, append(make([]api.Point, 256), far), api.ErrKind}, {0, append(make([]api.Point, 256), far), api.ErrMany}, {0, []api.Point{far, pt(-m, 0)}, api.ErrRange}, {0, []api.Point{pt(0, 0), pt(4097, 0)}, api.ErrSize}, {1, []api.Point{pt(0, 0), pt(0, 4097), pt(0, 0)}, api.ErrSize},
		{0, nil, api.OK}, {0, []api.Point{pt(0, 0), pt(5, 5)}, api.OK},
	} {
		r, e := poly.Region(x.rule, x.l...)
		want(t, "Region", e == x.e && r.Empty(), true)
	}
	r, e := poly.Region(poly.Winding, pt(m-4096, m-4096), pt(m, m-4096), pt(m, m), pt(m-4096, m))
	want(t, "rectangle", e == api.OK && band.Same(r, band.Of(rc(m-4096, m-4096, 4096, 4096))), true)
	l := []api.Point{pt(0, 0), pt(7, 0), pt(7, 3), pt(2, 3), pt(2, 5), pt(0, 5)}
	sum := 0
	for x := range 9 {
		for y := range 9 {
			sum += poly.Turns(x, y, l...)
		}
	}
	want(t, "sum of turns", 2*sum, -poly.Twice(l...))
}
