package canvas_test

import (
	"math/rand"
	"testing"

	"glazier/api"
	"glazier/band"
	"glazier/canvas"
	"glazier/expose"
	"glazier/grid"
	"glazier/place"
	"glazier/region"
	"glazier/sheet"
	"glazier/tree"
	"glazier/view"
)

func rc(x, y, w, h int) api.Rect { return api.Rect{X: x, Y: y, W: w, H: h} }

func want[T comparable](t *testing.T, what string, got, wanted T) {
	t.Helper()
	if got != wanted {
		t.Errorf("%s: %v, wanted %v", what, got, wanted)
	}
}

const a, b, x = api.ID(1<<20 + 1), api.ID(1<<20 + 2), api.ID(1<<20 + 3)

// look tells the view and the places of a at r, below b at s, which covers or doesn't.
func at(r, s api.Rect, covers bool) (view.View, place.Place) {
	t, _ := tree.New().Add(a, 1)
	t, _ = t.Add(b, 1)
	p, _ := place.New(20, 20)
	p, _ = p.Set(a, place.Box{X: r.X, Y: r.Y, W: r.W, H: r.H, Mapped: true})
	p, _ = p.Set(b, place.Box{X: s.X, Y: s.Y, W: s.W, H: s.H, Mapped: covers})
	return view.Of(t, p), p
}

func rows(c canvas.Canvas, id api.ID) string {
	g, _ := c.Grid(id)
	_, h := g.Size()
	s := ""
	for y := range h {
		s += g.Row(y) + "/"
	}
	return s
}

// P33.1
func TestChanges(t *testing.T) {
	var c canvas.Canvas
	c, e := c.Open(a, 2, 2, 9, true)
	want(t, "Open", e, api.OK)
	c, e = c.Pixmap(x, 3, 1, 4)
	want(t, "Pixmap", e, api.OK)
	want(t, "grids", rows(c, a)+rows(c, x), "\x09\x09/\x09\x09/\x04\x04\x04/")
	for _, y := range []struct {
		id   api.ID
		w, h int
		e    api.Errno
	}{{0, 0, 0, api.ErrNone}, {5, 0, 0, api.ErrRange}, {a, 0, 1, api.ErrSize}, {a, 1, 129, api.ErrSize}, {a, 1, 1, api.ErrTwice}, {x, 1, 1, api.ErrTwice}, {1, 1, 1, api.OK}} {
		d, e := c.Open(y.id, y.w, y.h, 1, false)
		f, g := c.Pixmap(y.id, y.w, y.h, 1)
		want(t, "refused", e == y.e && g == y.e, true)
		_, ok := d.Grid(1)
		_, ok2 := f.Grid(1)
		want(t, "refused", ok && ok2, e == api.OK)
	}
	d, e := c.Back(a, 5)
	p, backing, ok := d.Ground(a)
	want(t, "Back", e == api.OK && p == 5 && backing && ok && rows(d, a) == rows(c, a), true)
	_, e = c.Back(x, 5)
	want(t, "Back", e, api.ErrNone)
	_, e = c.Back(b, 5)
	want(t, "Back", e, api.ErrNone)
	g, _ := grid.New(3, 1, 8)
	d, e = c.Lay(x, g)
	want(t, "Lay", e == api.OK && rows(d, x) == "\x08\x08\x08/" && rows(c, x) == "\x04\x04\x04/", true)
	for _, size := range [][2]int{{3, 2}, {2, 1}} {
		other, _ := grid.New(size[0], size[1], 8)
		_, e = c.Lay(x, other)
		want(t, "Lay", e, api.ErrSize)
	}
	_, e = c.Lay(a, g)
	want(t, "Lay", e, api.ErrSize)
	_, e = c.Lay(b, g)
	want(t, "Lay", e, api.ErrNone)
	_, ok = c.Drop(a, 77).Grid(a)
	_, ok2 := c.Grid(a)
	want(t, "Drop", !ok && ok2, true)
	var many canvas.Canvas
	for i := api.ID(1); i <= 1025; i++ {
		many, e = many.Pixmap(2<<20+i, 1, 1, 0)
		want(t, "many", e, api.OK)
	}
	_, e = many.Pixmap(3<<20+1, 1, 1, 0)
	want(t, "many", e, api.ErrMany)
}

// P33.2
func TestLooks(t *testing.T) {
	c, _ := canvas.Canvas{}.Open(a, 4, 3, 9, false)
	c, _ = c.Pixmap(x, 3, 1, 4)
	for _, id := range []api.ID{x, b, 1} {
		p, backing, ok := c.Ground(id)
		want(t, "Ground", p == 0 && !backing && !ok, true)
	}
	v, p := at(rc(1, 1, 4, 3), rc(3, 0, 9, 9), true)
	r, ok := c.Clip(v, p, a)
	want(t, "without", ok && band.Same(r, band.Of(rc(0, 0, 2, 3))), true)
	d, _ := c.Drop(a).Open(a, 4, 3, 9, true)
	r, _ = d.Clip(v, p, a)
	want(t, "with", band.Same(r, band.Of(rc(0, 0, 4, 3))), true)
	r, ok = c.Clip(v, p, x)
	want(t, "pixmap", ok && band.Same(r, band.Of(rc(0, 0, 3, 1))), true)
	r, ok = c.Clip(v, p, b)
	want(t, "none", !ok && r.Empty(), true)
}

// P33.3, P33.4: the chapter's example.
func TestExample(t *testing.T) {
	free, p := at(rc(1, 1, 2, 2), rc(2, 0, 9, 9), false)
	hidden, _ := at(rc(1, 1, 2, 2), rc(2, 0, 9, 9), true)
	five, _ := grid.New(2, 2, 5)
	for _, backing := range []bool{false, true} {
		c, _ := canvas.Canvas{}.Open(a, 2, 2, 9, backing)
		c, _ = c.Lay(a, five)
		d, l := c.Change(free, hidden, p, nil)
		want(t, "nothing new", len(l), 0)
		_, gone := c.Change(free, hidden, p.Drop(a), nil)
		still, _ := c.Change(free, hidden, p.Drop(a), map[api.ID]expose.Shift{a: {Forget: true}})
		want(t, "no box", len(gone) == 0 && rows(still, a) == rows(c, a), true)
		e, l := d.Change(hidden, free, p, nil)
		if backing {
			want(t, "with", rows(d, a)+rows(e, a), "\x05\x05/\x05\x05/\x05\x05/\x05\x05/")
			want(t, "nothing new", len(l), 0)
			continue
		}
		want(t, "without", rows(d, a)+rows(e, a), "\x05\x09/\x05\x09/\x05\x09/\x05\x09/")
		want(t, "new", len(l) == 1 && l[0].ID == a && band.Same(l[0].New, band.Of(rc(1, 0, 1, 2))) && band.Same(l[0].Kept, band.Of(rc(0, 0, 1, 2))), true)
	}
}

// P33.3: place by place.
func TestPlaces(t *testing.T) {
	rnd := rand.New(rand.NewSource(7))
	for i := range 200 {
		r, s := rc(rnd.Intn(9), rnd.Intn(9), 1+rnd.Intn(6), 1+rnd.Intn(6)), rc(rnd.Intn(9), rnd.Intn(9), 1+rnd.Intn(6), 1+rnd.Intn(6))
		u := rc(rnd.Intn(9), rnd.Intn(9), 1+rnd.Intn(6), 1+rnd.Intn(6))
		was, _ := at(r, s, rnd.Intn(3) > 0)
		now, p := at(u, s, rnd.Intn(3) > 0)
		backing, d := i%2 == 0, expose.Shift{DX: rnd.Intn(5) - 2, DY: rnd.Intn(5) - 2, Forget: i%7 == 0}
		c, _ := canvas.Canvas{}.Open(a, r.W, r.H, 200, backing)
		c, _ = c.Pixmap(x, 1, 1, 3)
		g, _ := sheet.Make(r.W, r.H, func(_, _ int) api.Pixel { return api.Pixel(rnd.Intn(100)) })
		c, _ = c.Lay(a, g)
		n, l := c.Change(was, now, p, map[api.ID]expose.Shift{a: d})
		h, _ := n.Grid(a)
		w, hh := h.Size()
		want(t, "size", w == u.W && hh == u.H && rows(n, x) == "\x03/", true)
		var kept, fresh band.Region
		for _, y := range l {
			kept, fresh = y.Kept, y.New
		}
		for px := range u.W {
			for py := range u.H {
				fx, fy := px-d.DX, py-d.DY
				has := fx >= 0 && fy >= 0 && fx < r.W && fy < r.H && !d.Forget
				if !backing {
					has = has && now.Visible(a).Has(px, py) && was.Visible(a).Has(fx, fy)
				}
				v := api.Pixel(200)
				if has {
					v = g.At(fx, fy)
				}
				want(t, "pixel", h.At(px, py), v)
				shows := now.Visible(a).Has(px, py)
				want(t, "New", fresh.Has(px, py), shows && !has)
				want(t, "Kept", kept.Has(px, py), shows && has && len(l) > 0)
			}
		}
		want(t, "nothing else", region.Inside(fresh, now.Visible(a)) && len(l) < 2, true)
	}
}
