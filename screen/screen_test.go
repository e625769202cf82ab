package screen_test

import (
	"math"
	"math/rand"
	"strings"
	"testing"

	"glazier/api"
	"glazier/band"
	"glazier/canvas"
	"glazier/grid"
	"glazier/place"
	"glazier/screen"
	"glazier/sheet"
	"glazier/tree"
	"glazier/view"
)

func rc(x, y, w, h int) api.Rect { return api.Rect{X: x, Y: y, W: w, H: h} }

func want[T comparable](t *testing.T, what string, got, wanted T) {
	t.Helper()
	if got != wanted {
		t.Errorf("%s: %v, wanted %v", what, got, wanted)
	}
}

const a = api.ID(1<<20 + 1)

// P34.1
func TestExample(t *testing.T) {
	u, _ := tree.New().Add(a, 1)
	p, _ := place.New(4, 3)
	p, _ = p.Set(a, place.Box{X: 1, Y: 1, W: 2, H: 2, Mapped: true})
	c, _ := canvas.Canvas{}.Open(1, 4, 3, 1, true)
	c, _ = c.Open(a, 2, 2, 9, false)
	v := view.Of(u, p)
	g, e := screen.Show(v, c, 4, 3)
	want(t, "Show", e, api.OK)
	want(t, "Text", screen.Text(g), "01010101\n01090901\n01090901\n")
	big, _ := screen.Show(v, c, 5, 4)
	want(t, "Show", screen.Text(big), "0101010100\n0109090100\n0109090100\n0000000000\n")
	part, _ := screen.Show(v, c.Drop(a), 2, 2)
	want(t, "no grid", screen.Text(part), "0101\n0100\n")
	for _, s := range [][2]int{{0, 1}, {1, 0}, {129, 1}, {1, 129}} {
		g, e := screen.Show(v, c, s[0], s[1])
		want(t, "Show", e == api.ErrSize && grid.Same(g, grid.Grid{}), true)
	}
	for _, x := range []struct {
		x, y int
		p    api.Pixel
		id   api.ID
	}{{0, 0, 1, 1}, {1, 1, 9, a}, {3, 2, 1, 1}, {4, 0, 0, 0}, {-1, 0, 0, 0}, {0, 3, 0, 0}, {math.MaxInt, math.MinInt, 0, 0}} {
		p, id := screen.Look(u, p, c, x.x, x.y)
		want(t, "Look", p == x.p && id == x.id, true)
	}
	q, id := screen.Look(u, p, c.Drop(a), 1, 1)
	want(t, "no grid", q == 0 && id == a, true)
	q, id = screen.Look(u, place.Place{}, c, 0, 0)
	want(t, "no root", q == 0 && id == 0, true)
}

// P34.2
func TestText(t *testing.T) {
	rnd := rand.New(rand.NewSource(1))
	g, _ := sheet.Make(128, 128, func(_, _ int) api.Pixel { return api.Pixel(rnd.Intn(256)) })
	h, e := screen.Parse(screen.Text(g))
	want(t, "back", e == api.OK && grid.Same(g, h), true)
	want(t, "zero", screen.Text(grid.Grid{}), "")
	for _, x := range []struct {
		s string
		e api.Errno
	}{{"", api.ErrEmpty}, {"01", api.ErrForm}, {"\n", api.ErrForm}, {"0\n", api.ErrForm}, {"0g\n", api.ErrForm}, {"0A\n", api.ErrForm}, {"01\n0102\n", api.ErrForm}, {"01\n\n", api.ErrForm}, {strings.Repeat("01", 129) + "\nx", api.ErrForm}, {strings.Repeat("01", 129) + "\n", api.ErrSize}, {strings.Repeat("01\n", 129), api.ErrSize}, {"af\n", api.OK}} {
		g, e := screen.Parse(x.s)
		want(t, "Parse", e, x.e)
		want(t, "Parse", grid.Same(g, grid.Grid{}), e != api.OK)
	}
	d, e := screen.Diff(g, g.Set(3, 4, g.At(3, 4)+1).Set(9, 9, g.At(9, 9)-1))
	want(t, "Diff", e == api.OK && band.Same(d, band.Of(rc(3, 4, 1, 1), rc(9, 9, 1, 1))), true)
	small, _ := grid.New(128, 127, 0)
	d, e = screen.Diff(g, small)
	want(t, "Diff", e == api.ErrSize && d.Empty(), true)
	d, e = screen.Diff(grid.Grid{}, grid.Grid{})
	want(t, "Diff", e == api.OK && d.Empty(), true)
}

// P34.3
func TestShownIsLookedUp(t *testing.T) {
	rnd := rand.New(rand.NewSource(8))
	for range 60 {
		u := tree.New()
		p, _ := place.New(12, 10)
		c, _ := canvas.Canvas{}.Open(1, 12, 10, 100, true)
		for i := api.ID(1); i < 9; i++ {
			l := u.Below(1)
			u, _ = u.Add(1<<20+i, l[rnd.Intn(len(l))])
			x := place.Box{X: rnd.Intn(12) - 3, Y: rnd.Intn(10) - 3, W: 1 + rnd.Intn(8), H: 1 + rnd.Intn(8), Mapped: rnd.Intn(5) > 0}
			if rnd.Intn(4) == 0 {
				x.Shaped, x.Shape = true, band.Of(rc(1, 0, 3, 9), rc(0, 2, 9, 2))
			}
			p, _ = p.Set(1<<20+i, x)
			c, _ = c.Open(1<<20+i, x.W, x.H, api.Pixel(i), true)
			g, _ := sheet.Make(x.W, x.H, func(_, _ int) api.Pixel { return api.Pixel(rnd.Intn(256)) })
			c, _ = c.Lay(1<<20+i, g)
		}
		v := view.Of(u, p)
		g, _ := screen.Show(v, c, 12, 10)
		for x := range 12 {
			for y := range 10 {
				p, id := screen.Look(u, p, c, x, y)
				top, _ := v.At(x, y)
				want(t, "Look", p == g.At(x, y) && id == top, true)
			}
		}
	}
}
