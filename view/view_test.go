package view_test

import (
	"math/rand"
	"slices"
	"testing"

	"glazier/api"
	"glazier/band"
	"glazier/place"
	"glazier/region"
	"glazier/tree"
	"glazier/view"
)

func rc(x, y, w, h int) api.Rect { return api.Rect{X: x, Y: y, W: w, H: h} }

func want[T comparable](t *testing.T, what string, got, wanted T) {
	t.Helper()
	if got != wanted {
		t.Errorf("%s: %v, wanted %v", what, got, wanted)
	}
}

const a, b, c = api.ID(1<<20 + 1), api.ID(1<<20 + 2), api.ID(1<<20 + 3)

func box(r api.Rect) place.Box { return place.Box{X: r.X, Y: r.Y, W: r.W, H: r.H, Mapped: true} }

func example() (tree.Tree, place.Place) {
	t, _ := tree.New().Add(a, 1)
	t, _ = t.Add(b, 1)
	t, _ = t.Add(c, a)
	p, _ := place.New(8, 6)
	p, _ = p.Set(a, box(rc(1, 1, 4, 3)))
	p, _ = p.Set(b, box(rc(3, 2, 4, 3)))
	p, _ = p.Set(c, box(rc(0, 0, 2, 1)))
	return t, p
}

// P31.1, P31.2
func TestExample(t *testing.T) {
	u, p := example()
	v := view.Of(u, p)
	for id, n := range map[api.ID]int{1: 28, a: 6, b: 12, c: 2, 99: 0} {
		want(t, "Visible", v.Visible(id).Area(), n)
		want(t, "Clip", v.Clip(id).Area(), n)
	}
	want(t, "places", band.Same(v.Visible(c), band.Of(rc(0, 0, 2, 1))) && band.Same(v.Clip(c), band.Of(rc(1, 1, 2, 1))), true)
	want(t, "Windows", slices.Equal(v.Windows(), []api.ID{1, a, c, b}), true)
	o, ok := v.Origin(b)
	want(t, "Origin", o == api.Point{X: 3, Y: 2} && ok, true)
	for _, x := range []struct {
		x, y int
		id   api.ID
	}{{0, 0, 1}, {1, 1, c}, {3, 1, a}, {3, 2, b}, {7, 5, 1}, {8, 5, 0}, {-1, 0, 0}, {0, 6, 0}} {
		id, ok := v.At(x.x, x.y)
		want(t, "At", id == x.id && ok == (x.id != 0), true)
	}
	x, _ := p.Box(a)
	x.Mapped = false
	p, _ = p.Set(a, x)
	w := view.Of(u, p)
	o, ok = w.Origin(c)
	want(t, "unmapped", !w.Viewable(a) && !w.Viewable(c) && w.Viewable(b) && !ok && o == api.Point{} && w.Visible(c).Empty() && w.Clip(a).Empty(), true)
	want(t, "no box", view.Of(u, p.Drop(b)).Viewable(b), false)
	z := view.View{}
	_, ok = z.At(0, 0)
	want(t, "zero", ok || z.Viewable(1) || len(z.Windows()) > 0 || view.Of(u, place.Place{}).Viewable(1), false)
}

// by looks up the window at a place of the root by the words.
func by(t tree.Tree, p place.Place, x, y int) api.ID {
	root, _ := p.Box(1)
	if x < 0 || y < 0 || x >= root.W || y >= root.H {
		return 0
	}
	id := api.ID(1)
down:
	for {
		kids := t.Kids(id)
		slices.Reverse(kids)
		for _, k := range kids {
			o, _ := p.Origin(t, k)
			if q, ok := p.Box(k); ok && q.Mapped && p.Area(k).Has(x-o.X, y-o.Y) {
				id = k
				continue down
			}
		}
		return id
	}
}

// P31.2, P31.3
func TestPlaces(t *testing.T) {
	rnd := rand.New(rand.NewSource(5))
	for range 60 {
		u, p := tree.New(), place.Place{}
		p, _ = place.New(12, 10)
		for i := api.ID(1); i < 9; i++ {
			l := u.Below(1)
			u, _ = u.Add(1<<20+i, l[rnd.Intn(len(l))])
			x := box(rc(rnd.Intn(12)-3, rnd.Intn(10)-3, 1+rnd.Intn(8), 1+rnd.Intn(8)))
			x.Mapped = rnd.Intn(5) > 0
			if rnd.Intn(4) == 0 {
				x.Shaped, x.Shape = true, band.Of(rc(1, 0, 3, 9), rc(0, 2, 9, 2))
			}
			p, _ = p.Set(1<<20+i, x)
		}
		v := view.Of(u, p)
		for x := -1; x < 13; x++ {
			for y := -1; y < 11; y++ {
				id, _ := v.At(x, y)
				want(t, "At", id, by(u, p, x, y))
				for _, w := range u.Below(1) {
					want(t, "Clip", v.Clip(w).Has(x, y), w == id)
				}
			}
		}
		for _, w := range u.Below(1) {
			if o, ok := v.Origin(w); ok {
				want(t, "Visible", band.Same(region.Shift(v.Visible(w), o.X, o.Y), v.Clip(w)), true)
			}
		}
		raised := 1<<20 + 1 + api.ID(rnd.Intn(8))
		parent, _ := u.Parent(raised)
		r, _ := u.Move(raised, parent)
		after := view.Of(r, p)
		for _, w := range u.Below(1) {
			if slices.Contains(u.Below(raised), w) {
				want(t, "no less", region.Inside(v.Clip(w), after.Clip(w)), true)
			} else {
				want(t, "no more", region.Inside(after.Clip(w), v.Clip(w)), true)
			}
		}
	}
}
