package gravity_test

import (
	"strings"
	"testing"

	"glazier/api"
	"glazier/gravity"
)

func rc(x, y, w, h int) api.Rect { return api.Rect{X: x, Y: y, W: w, H: h} }

func want[T comparable](t *testing.T, what string, got, wanted T) {
	t.Helper()
	if got != wanted {
		t.Errorf("%s: %v, wanted %v", what, got, wanted)
	}
}

// P16.1, P16.2
func TestShift(t *testing.T) {
	was := rc(10, 10, 4, 4)
	for _, x := range []struct {
		g      int
		now    api.Rect
		dx, dy int
		kept   api.Rect
	}{
		{gravity.NorthWest, rc(8, 10, 7, 4), 0, 0, rc(0, 0, 4, 4)}, {gravity.North, rc(8, 10, 7, 4), 1, 0, rc(1, 0, 4, 4)}, {gravity.East, rc(8, 10, 7, 4), 3, 0, rc(3, 0, 4, 4)}, {gravity.Static, rc(8, 10, 7, 4), 2, 0, rc(2, 0, 4, 4)},
		{gravity.North, rc(10, 10, 1, 4), -2, 0, rc(0, 0, 1, 4)}, {gravity.Center, rc(0, 0, 9, 1), 2, -2, rc(2, 0, 4, 1)}, {gravity.SouthEast, rc(0, 0, 9, 1), 5, -3, rc(5, 0, 4, 1)}, {gravity.SouthWest, rc(0, 0, 9, 9), 0, 5, rc(0, 5, 4, 4)},
		{gravity.South, rc(0, 0, 7, 9), 1, 5, rc(1, 5, 4, 4)}, {gravity.West, rc(0, 0, 7, 9), 0, 2, rc(0, 2, 4, 4)}, {gravity.NorthEast, rc(0, 0, 7, 9), 3, 0, rc(3, 0, 4, 4)}, {gravity.Static, rc(20, 10, 4, 4), -10, 0, rc(0, 0, 0, 0)}, {gravity.Static, rc(14, 10, 4, 4), -4, 0, rc(0, 0, 0, 0)}, {gravity.Static, rc(11, 6, 4, 4), -1, 4, rc(0, 0, 0, 0)}, {gravity.Static, rc(11, 13, 4, 4), -1, -3, rc(0, 0, 3, 1)},
	} {
		d, ok := gravity.Shift(x.g, was, x.now)
		want(t, gravity.Name(x.g), d, api.Point{X: x.dx, Y: x.dy})
		d, kept, ok2 := gravity.Kept(x.g, was, x.now)
		want(t, gravity.Name(x.g), d, api.Point{X: x.dx, Y: x.dy})
		want(t, gravity.Name(x.g), kept, x.kept)
		want(t, gravity.Name(x.g), ok && ok2, true)
	}
	for _, x := range []struct {
		g        int
		was, now api.Rect
	}{{gravity.Forget, was, was}, {11, was, was}, {-1, was, was}, {gravity.North, rc(0, 0, 0, 0), was}, {gravity.North, was, rc(0, 0, 0, 0)}, {gravity.North, was, rc(0, 0, 0, 5)}, {gravity.Static, rc(api.MaxCoord, 0, 1, 1), was}} {
		d, kept, ok := gravity.Kept(x.g, x.was, x.now)
		e, ok2 := gravity.Shift(x.g, x.was, x.now)
		want(t, "none", !ok && !ok2 && d == api.Point{} && e == d && kept == api.Rect{}, true)
	}
}

// P16.3
func TestNames(t *testing.T) {
	for g, n := range strings.Fields("forget north-west north north-east west center east south-west south south-east static") {
		want(t, "Name", gravity.Name(g), n)
		h, ok := gravity.Of(n)
		want(t, "Of", h == g && ok && gravity.Check(g) == api.OK, true)
	}
	for _, g := range []int{-1, 11} {
		want(t, "none", gravity.Name(g) == "" && gravity.Check(g) == api.ErrKind, true)
	}
	g, ok := gravity.Of("")
	want(t, "Of", g == 0 && !ok, true)
}

// P16.4
func TestThereAndBack(t *testing.T) {
	for g := gravity.NorthWest; g <= gravity.Static; g++ {
		for i := range 256 {
			was, now := rc(i&3, i>>2&3, 1+i>>4&3, 1+i>>6), rc(1, 2, 3, 3)
			d, _ := gravity.Shift(g, was, now)
			e, _ := gravity.Shift(g, now, was)
			for _, s := range []int{d.X + e.X, d.Y + e.Y} {
				want(t, "halves", s == 0 || s == -1, true)
			}
			if g == gravity.Static {
				want(t, "stays", was.X == now.X+d.X && was.Y == now.Y+d.Y, true)
			} else if was.W == now.W && was.H == now.H {
				want(t, "stays", d, api.Point{})
			}
		}
	}
}
