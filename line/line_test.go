package line_test

import (
	"math"
	"math/rand"
	"slices"
	"testing"

	"glazier/api"
	"glazier/band"
	"glazier/line"
)

func rc(x, y, w, h int) api.Rect { return api.Rect{X: x, Y: y, W: w, H: h} }
func pt(x, y int) api.Point      { return api.Point{X: x, Y: y} }

const m = api.MaxCoord

func want[T comparable](t *testing.T, what string, got, wanted T) {
	t.Helper()
	if got != wanted {
		t.Errorf("%s: %v, wanted %v", what, got, wanted)
	}
}

func apart(a, b int) int { return max(a-b, b-a) }

var wrong = []api.Point{pt(m+1, 0), pt(-m-1, 0), pt(0, m+1), pt(0, -m-1), pt(math.MaxInt, 0), pt(0, math.MinInt)}

// P20.1
func TestPixels(t *testing.T) {
	for _, x := range []struct {
		a, b api.Point
		l    []api.Point
	}{
		{pt(0, 0), pt(4, 2), []api.Point{pt(0, 0), pt(1, 0), pt(2, 1), pt(3, 1), pt(4, 2)}},
		{pt(4, 2), pt(0, 0), []api.Point{pt(4, 2), pt(3, 1), pt(2, 1), pt(1, 0), pt(0, 0)}},
		{pt(0, 0), pt(-2, 4), []api.Point{pt(0, 0), pt(-1, 1), pt(-1, 2), pt(-2, 3), pt(-2, 4)}},
		{pt(3, 3), pt(3, 3), []api.Point{pt(3, 3)}},
		{pt(m, m), pt(m-1, m-1), []api.Point{pt(m, m), pt(m-1, m-1)}},
	} {
		l, e := line.Pixels(x.a, x.b)
		want(t, "Pixels", e == api.OK && slices.Equal(l, x.l), true)
	}
	for _, p := range wrong {
		l, e := line.Pixels(p, pt(0, 0))
		want(t, "Pixels", e == api.ErrRange && len(l) == 0, true)
		_, e = line.Pixels(pt(0, 0), p)
		want(t, "Pixels", e, api.ErrRange)
		want(t, "On", line.On(p, pt(0, 0), 0, 0) || line.On(pt(0, 0), p, 0, 0) || line.On(pt(0, 0), pt(5, 5), p.X, p.Y), false)
	}
	l, e := line.Pixels(pt(0, 0), pt(65535, 3))
	want(t, "longest", e == api.OK && len(l) == 65536, true)
	_, e = line.Pixels(pt(0, 0), pt(3, 65536))
	want(t, "too long", e, api.ErrLong)
	want(t, "On", line.On(pt(-m, -m), pt(m, m-1), 0, -1) && line.On(pt(-m, -m), pt(m, m-1), m, m-1) && !line.On(pt(-m, -m), pt(m, m-1), 0, 0), true)
}

// P20.1, P20.2, P20.4: against the exact line.
func TestNearest(t *testing.T) {
	rnd := rand.New(rand.NewSource(4))
	for range 500 {
		a, b := pt(rnd.Intn(21)-10, rnd.Intn(21)-10), pt(rnd.Intn(21)-10, rnd.Intn(21)-10)
		l, _ := line.Pixels(a, b)
		back, _ := line.Pixels(b, a)
		slices.Reverse(back)
		want(t, "other way", slices.Equal(l, back), true)
		want(t, "how many", len(l), max(apart(a.X, b.X), apart(a.Y, b.Y))+1)
		far, _ := line.Pixels(pt(a.X+100, a.Y-70), pt(b.X+100, b.Y-70))
		r := rc(rnd.Intn(15)-10, rnd.Intn(15)-10, 1+rnd.Intn(9), 1+rnd.Intn(9))
		var cut []api.Point
		for i, p := range l {
			want(t, "moved", far[i], pt(p.X+100, p.Y-70))
			if dx, dy := b.X-a.X, b.Y-a.Y; dx != 0 && apart(a.X, b.X) >= apart(a.Y, b.Y) {
				// twice the distance from the exact line, times dx: from -dx/2 on, up to dx/2.
				d := 2 * ((p.Y-a.Y)*dx - (p.X-a.X)*dy)
				if dx < 0 {
					d, dx = -d, -dx
				}
				want(t, "nearest", -dx <= d && d < dx, true)
			}
			want(t, "On", line.On(a, b, p.X, p.Y) && !line.On(a, b, p.X, p.Y+1) == (i == len(l)-1 || l[i+1] != pt(p.X, p.Y+1)) || i > 0 && l[i-1] == pt(p.X, p.Y+1), true)
			want(t, "On", line.On(a, b, p.X, p.Y) && !line.On(a, b, p.X+30, p.Y) && !line.On(a, b, p.X, p.Y-30), true)
			if band.Of(r).Has(p.X, p.Y) {
				cut = append(cut, p)
			}
		}
		c, e := line.Clip(a, b, r)
		want(t, "Clip", e == api.OK && slices.Equal(c, cut), true)
	}
}

// P20.2
func TestClip(t *testing.T) {
	for _, p := range wrong {
		_, e := line.Clip(p, pt(0, 0), rc(0, 0, 70000, 1))
		want(t, "Clip", e, api.ErrRange)
	}
	_, e := line.Clip(pt(0, 0), pt(1, 1), rc(0, 0, 65537, 1))
	want(t, "Clip", e, api.ErrSize)
	_, e = line.Clip(pt(0, 0), pt(1, 1), rc(0, 0, 1, 65537))
	want(t, "Clip", e, api.ErrSize)
	for _, r := range []api.Rect{{}, rc(0, 0, 1<<40, 1), rc(m, 0, 99999, 1), rc(0, 0, -70000, -70000)} {
		l, e := line.Clip(pt(0, 0), pt(1, 1), r)
		want(t, "Clip", e == api.OK && len(l) == 0, true)
	}
	l, e := line.Clip(pt(0, 0), pt(1, 1), rc(0, 0, 65536, 65536))
	want(t, "as great as may be", e == api.OK && len(l) == 2, true)
	l, e = line.Clip(pt(-m, 5), pt(m, 5), rc(7, 0, 3, 9))
	want(t, "Clip", e == api.OK && slices.Equal(l, []api.Point{pt(7, 5), pt(8, 5), pt(9, 5)}), true)
}

// P20.3
func TestPath(t *testing.T) {
	all := rc(-9, -9, 99, 99)
	l, e := line.Path(all, pt(0, 0), pt(2, 0), pt(2, 0), pt(0, 0), pt(0, 1))
	want(t, "Path", e == api.OK && slices.Equal(l, []api.Point{pt(0, 0), pt(1, 0), pt(2, 0), pt(1, 0), pt(0, 0), pt(0, 1)}), true)
	l, e = line.Path(all, pt(3, 4))
	want(t, "one", e == api.OK && slices.Equal(l, []api.Point{pt(3, 4)}), true)
	l, e = line.Path(all)
	want(t, "none", e == api.OK && len(l) == 0, true)
	_, e = line.Path(rc(0, 0, 70000, 1), append(make([]api.Point, 4096), wrong[0])...)
	want(t, "Path", e, api.ErrMany)
	l, e = line.Path(rc(0, 0, 1, 1), make([]api.Point, 4096)...)
	want(t, "4096 points", e == api.OK && len(l) == 1 && line.Region(make([]api.Point, 4096)...).Area() == 1, true)
	_, e = line.Path(rc(0, 0, 70000, 1), wrong[0])
	want(t, "Path", e, api.ErrRange)
	_, e = line.Path(rc(0, 0, 70000, 1), pt(-m, 0), pt(m, 0))
	want(t, "Path", e, api.ErrSize)
	_, e = line.Path(rc(0, 0, 0, 1), pt(0, 0), pt(262144, 0))
	want(t, "Path", e, api.ErrLong)
	l, e = line.Path(rc(100, 0, 5, 1), pt(0, 0), pt(262143, 0))
	want(t, "Path", e == api.OK && len(l) == 5, true)
	r := line.Region(pt(0, 0), pt(2, 0), pt(2, 2), pt(0, 0))
	want(t, "Region", band.Same(r, band.Of(rc(0, 0, 3, 1), rc(1, 1, 2, 1), rc(2, 2, 1, 1))), true)
	want(t, "Region", line.Region(pt(m-1, 0), pt(m, 0)).Box() == rc(m-1, 0, 1, 1) && line.Region().Empty() && line.Region(make([]api.Point, 4097)...).Empty() && line.Region(wrong[0]).Empty(), true)
	want(t, "Region", line.Region(pt(0, 0), pt(65535, 0)).Area() == 65536 && line.Region(pt(0, 0), pt(65536, 0)).Empty(), true)
}
