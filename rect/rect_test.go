package rect_test

import (
	"math"
	"slices"
	"testing"

	"glazier/api"
	"glazier/rect"
)

func want[T comparable](t *testing.T, what string, got, wanted T) {
	t.Helper()
	if got != wanted {
		t.Errorf("%s: %v, wanted %v", what, got, wanted)
	}
}

type r = api.Rect

func rc(x, y, w, h int) r { return r{X: x, Y: y, W: w, H: h} }

const m = api.MaxCoord

var wrong = []r{rc(0, 0, 0, 1), rc(0, 0, 1, 0), rc(1, 0, 0, 0), rc(-m-1, 0, 1, 1), rc(0, -m-1, 1, 1), rc(m, 0, 1, 1), rc(0, m-1, 1, 2), rc(0, 0, -1, 1), rc(0, 0, math.MaxInt, 1), rc(math.MaxInt, 0, 1, 1), rc(math.MinInt, 0, math.MinInt, 5)}

// P12.1
func TestOne(t *testing.T) {
	for _, x := range wrong {
		want(t, "Check", rect.Check(x), api.ErrRange)
		want(t, "counts as none", rect.Empty(x) && !rect.Has(x, x.X, x.Y) && rect.Area(x) == 0 && rect.Holds(r{}, x) && !rect.Holds(x, rc(0, 0, 1, 1)), true)
		want(t, "Cross", rect.Cross(x, rc(-m, -m, 2*m, 2*m)), r{})
		want(t, "Box", rect.Box(x, rc(1, 1, 1, 1)), rc(1, 1, 1, 1))
		want(t, "Shift", rect.Shift(x, 0, 0), r{})
		want(t, "Minus", len(rect.Minus(x, rc(0, 0, 1, 1))), 0)
		want(t, "Minus", len(rect.Minus(rc(0, 0, 1, 1), x)), 1)
	}
	for _, x := range []r{r{}, rc(0, 0, 1, 1), rc(-m, -m, 2*m, 2*m), rc(m-1, m-1, 1, 1)} {
		want(t, "Check", rect.Check(x), api.OK)
		want(t, "Area", rect.Area(x), x.W*x.H)
		want(t, "Holds", rect.Holds(x, x) && rect.Holds(x, r{}), true)
	}
	a := rc(2, 1, 3, 2)
	want(t, "Has", rect.Has(a, 2, 1) && rect.Has(a, 4, 2) && !rect.Has(a, 5, 1) && !rect.Has(a, 2, 3) && !rect.Has(a, 1, 1) && !rect.Has(a, 2, 0), true)
	want(t, "Holds", rect.Holds(a, rc(3, 1, 2, 2)) && !rect.Holds(a, rc(3, 1, 3, 2)) && !rect.Holds(r{}, a), true)
}

// P12.2
func TestTwo(t *testing.T) {
	a, b := rc(0, 0, 4, 3), rc(2, 1, 9, 9)
	want(t, "Cross", rect.Cross(a, b), rc(2, 1, 2, 2))
	want(t, "Cross", rect.Cross(a, rc(4, 0, 1, 1)), r{})
	want(t, "Box", rect.Box(a, b), rc(0, 0, 11, 10))
	want(t, "Box", rect.Box(), r{})
	want(t, "Box", rect.Box(r{}, b, r{}), b)
	want(t, "Box", rect.Box(rc(-3, 5, 1, 1), a, rc(9, 9, 1, 1)), rc(-3, 0, 13, 10))
	want(t, "Shift", rect.Shift(a, -2, 5), rc(-2, 5, 4, 3))
	want(t, "Shift", rect.Shift(a, m-4, -m), rc(m-4, -m, 4, 3))
	for _, d := range []int{m - 2, -m - 1, math.MaxInt, math.MinInt} {
		want(t, "Shift", rect.Shift(a, d, 0), r{})
		want(t, "Shift", rect.Shift(a, 0, d), r{})
	}
}

// P12.3, P12.4
func TestMinus(t *testing.T) {
	want(t, "Minus", slices.Equal(rect.Minus(rc(0, 0, 4, 3), rc(2, 1, 9, 9)), []r{rc(0, 0, 4, 1), rc(0, 1, 2, 2)}), true)
	want(t, "Minus", slices.Equal(rect.Minus(rc(0, 0, 4, 4), rc(1, 1, 2, 2)), []r{rc(0, 0, 4, 1), rc(0, 1, 1, 2), rc(3, 1, 1, 2), rc(0, 3, 4, 1)}), true)
	want(t, "Minus", slices.Equal(rect.Minus(rc(0, 0, 4, 4), rc(9, 9, 2, 2)), []r{rc(0, 0, 4, 4)}), true)
	for i := range 4096 {
		a := rc(i&3, i>>2&3, 1+i>>4&3, 1+i>>6&1)
		b := rc(i>>7&3, i>>9&1, 1+i>>10&3, 2)
		want(t, "Cross", rect.Cross(a, b), rect.Cross(b, a))
		want(t, "Box", rect.Box(a, b), rect.Box(b, a))
		for x := range 9 {
			for y := range 9 {
				n := 0
				for _, p := range append(rect.Minus(a, b), rect.Cross(a, b)) {
					if rect.Has(p, x, y) {
						n++
					}
				}
				want(t, "once", n == 1, rect.Has(a, x, y))
				want(t, "at most once", n < 2, true)
			}
		}
		want(t, "back", rect.Shift(rect.Shift(a, 7, -3), -7, 3), a)
	}
}
