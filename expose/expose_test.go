package expose_test

import (
	"slices"
	"testing"

	"glazier/api"
	"glazier/band"
	"glazier/expose"
	"glazier/place"
	"glazier/region"
	"glazier/tell"
	"glazier/tree"
	"glazier/view"
)

func rc(x, y, w, h int) api.Rect { return api.Rect{X: x, Y: y, W: w, H: h} }

func want[T comparable](t *testing.T, what string, got, wanted T) {
	t.Helper()
	if got != wanted {
		t.Errorf("%s: %v, wanted %v", what, got, wanted)
	}
}

const a, b = api.ID(1<<20 + 1), api.ID(1<<20 + 2)

// look is a view of a at r, below b at s, which is mapped or not.
func look(r, s api.Rect, mapped, covers bool) view.View {
	t, _ := tree.New().Add(a, 1)
	t, _ = t.Add(b, 1)
	p, _ := place.New(20, 20)
	p, _ = p.Set(a, place.Box{X: r.X, Y: r.Y, W: r.W, H: r.H, Mapped: mapped})
	p, _ = p.Set(b, place.Box{X: s.X, Y: s.Y, W: s.W, H: s.H, Mapped: covers})
	return view.Of(t, p)
}

// P32.1
func TestOne(t *testing.T) {
	hidden, free := look(rc(1, 1, 4, 3), rc(3, 0, 9, 9), true, true), look(rc(1, 1, 4, 3), rc(3, 0, 9, 9), true, false)
	c := expose.One(hidden, free, a, expose.Shift{})
	want(t, "One", c.ID == a && band.Same(c.Kept, band.Of(rc(0, 0, 2, 3))) && band.Same(c.New, band.Of(rc(2, 0, 2, 3))), true)
	c = expose.One(hidden, free, a, expose.Shift{DX: 1, DY: -1})
	want(t, "moved", band.Same(c.Kept, band.Of(rc(1, 0, 2, 2))) && c.New.Area() == 8, true)
	c = expose.One(hidden, free, a, expose.Shift{DX: 1, Forget: true})
	want(t, "forgotten", c.Kept.Empty() && c.New.Area() == 12, true)
	c = expose.One(free, look(rc(1, 1, 4, 3), rc(3, 0, 9, 9), false, false), a, expose.Shift{})
	want(t, "not viewable", c.ID == a && c.Kept.Empty() && c.New.Empty(), true)
	c = expose.One(look(rc(1, 1, 4, 3), rc(3, 0, 9, 9), false, false), free, a, expose.Shift{})
	want(t, "wasn't viewable", c.Kept.Empty() && c.New.Area() == 12, true)
	c = expose.One(free, look(rc(5, 7, 4, 3), rc(3, 0, 9, 9), true, false), a, expose.Shift{})
	want(t, "moved on the root", c.New.Empty() && c.Kept.Area() == 12, true)
	want(t, "Lost", band.Same(expose.Lost(free, hidden, a), band.Of(rc(2, 0, 2, 3))) && expose.Lost(hidden, free, a).Empty() && expose.Lost(free, hidden, 99).Empty(), true)
	l := expose.Of(hidden, free, nil)
	want(t, "Of", len(l) == 2 && l[0].ID == 1 && l[1].ID == a, true)
	l = expose.Of(free, free, map[api.ID]expose.Shift{a: {Forget: true}})
	want(t, "Of", len(l) == 1 && l[0].ID == a && l[0].New.Area() == 12, true)
	want(t, "the same", len(expose.Of(free, free, nil)), 0)
}

// P32.2, P32.3
func TestEvents(t *testing.T) {
	l := expose.Events(expose.Change{ID: a, Kept: band.Of(rc(9, 9, 9, 9)), New: band.Of(rc(2, 0, 2, 3), rc(0, 5, 1, 1))})
	want(t, "Events", len(l) == 2 && slices.Equal(l[0].N, []int64{int64(a), 2, 0, 2, 3, 1}) && slices.Equal(l[1].N, []int64{int64(a), 0, 5, 1, 1, 0}), true)
	for _, o := range append(l, append(expose.Graphics(a, band.Of(rc(1, 2, 3, 4))), expose.Graphics(a, band.Region{})...)...) {
		want(t, "right", o.Kind == api.Event && o.Seq == 0 && tell.Check(o) == api.OK, true)
	}
	want(t, "none", len(expose.Events(expose.Change{ID: a})), 0)
	g := expose.Graphics(a, band.Of(rc(1, 2, 3, 4)))
	want(t, "Graphics", len(g) == 1 && g[0].Code == api.EvGraphicsExpose && slices.Equal(g[0].N, []int64{int64(a), 1, 2, 3, 4, 0}), true)
	g = expose.Graphics(a, band.Region{})
	want(t, "NoExpose", len(g) == 1 && g[0].Code == api.EvNoExpose && slices.Equal(g[0].N, []int64{int64(a)}), true)
	want(t, "codes", l[0].Code, api.EvExpose)
	// P32.3: kept and new part what shows.
	was, now := look(rc(1, 1, 9, 8), rc(3, 0, 4, 9), true, true), look(rc(2, 3, 7, 9), rc(4, 4, 2, 2), true, true)
	for _, s := range []expose.Shift{{}, {DX: 2, DY: -3}, {Forget: true}} {
		c := expose.One(was, now, a, s)
		want(t, "parts", region.Meet(c.Kept, c.New).Empty() && band.Same(region.Union(c.Kept, c.New), now.Visible(a)), true)
	}
}
