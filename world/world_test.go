package world_test

import (
	"slices"
	"strconv"
	"strings"
	"testing"

	"glazier/api"
	"glazier/band"
	"glazier/claim"
	"glazier/expose"
	"glazier/format"
	"glazier/freeze"
	"glazier/grid"
	"glazier/held"
	"glazier/passive"
	"glazier/pen"
	"glazier/place"
	"glazier/prop"
	"glazier/screen"
	"glazier/world"
)

func want[T comparable](t *testing.T, what string, got, wanted T) {
	t.Helper()
	if got != wanted {
		t.Errorf("%s: %v, wanted %v", what, got, wanted)
	}
}

const a, p, q, f = api.ID(1<<20 + 1), api.ID(1<<20 + 2), api.ID(1<<20 + 3), api.ID(1<<20 + 4)

func fresh(t *testing.T) world.World {
	t.Helper()
	w, e := world.New(4, 3, 7)
	want(t, "New", e, api.OK)
	return w
}

// full is a world with a window, a pixmap, a pen and a font of the client 1.
func full(t *testing.T) world.World {
	t.Helper()
	w := fresh(t)
	was := w.In.View
	w.Clients[1] = true
	w.In.Tree, _ = w.In.Tree.Add(a, 1)
	w.Place, _ = w.Place.Set(a, place.Box{X: 1, Y: 1, W: 2, H: 2, Mapped: true, Grav: 1})
	w.Canvas, _ = w.Canvas.Open(a, 2, 2, 9, false)
	w.Canvas, _ = w.Canvas.Pixmap(p, 2, 1, 3)
	for id, kind := range map[api.ID]int{a: held.Window, p: held.Pixmap, q: held.Pen, f: held.Font} {
		w.Held, _ = w.Held.Add(1, id, kind)
	}
	w.Pens[q] = pen.New()
	w.Fonts[f] = "tiny"
	w, _ = w.Settle(was, nil)
	want(t, "rules", len(w.Check()), 0)
	return w
}

// P45.1, P45.6
func TestNew(t *testing.T) {
	for _, s := range [][2]int{{0, 1}, {1, 0}, {129, 1}, {1, 129}} {
		w, e := world.New(s[0], s[1], 5)
		want(t, "New", e == api.ErrSize && w.W == 0 && w.Props == nil && grid.Same(w.Show(), grid.Grid{}), true)
	}
	odd, _ := world.New(7, 9, 1)
	want(t, "the middle", odd.In.X == 3 && odd.In.Y == 4 && odd.W == 7 && odd.H == 9, true)
	w := fresh(t)
	want(t, "Show", screen.Text(w.Show()), "07070707\n07070707\n07070707\n")
	want(t, "pointer", w.In.X == 2 && w.In.Y == 1 && w.In.Under == 1 && w.In.Focus.Window == 1 && w.In.Focus.Revert == 1 && w.In.Focus.Time == 0, true)
	want(t, "maps", w.Props != nil && w.Pens != nil && w.Fonts != nil && w.Over != nil && w.Clients != nil, true)
	p, backing, ok := w.Canvas.Ground(1)
	want(t, "ground", p == 7 && backing && ok && len(w.Check()) == 0, true)
}

// P45.2, P45.6
func TestSettle(t *testing.T) {
	w := full(t)
	w.In.Choice, _ = w.In.Choice.Set(1, a, api.MaskExpose|api.MaskLeave)
	w.Clients[2] = true
	w.In.Choice, _ = w.In.Choice.Set(2, a, api.MaskExpose)
	want(t, "Under", w.In.Under, a)
	was := w.In.View
	b, _ := w.Place.Box(a)
	b.X, b.Y = -1, -1
	w.Place, _ = w.Place.Set(a, b)
	u, said := w.Settle(was, nil)
	want(t, "Leave", len(said) == 1 && said[0].Client == 1 && said[0].Out.Code == api.EvLeave, true)
	want(t, "as it was", band.Same(w.In.View.Clip(a), was.Clip(a)) && u.In.Under == 1, true)
	was = u.In.View
	b.X, b.Y = 1, 1
	u.Place, _ = u.Place.Set(a, b)
	v, said := u.Settle(was, map[api.ID]expose.Shift{a: {}})
	ok := len(said) == 4 && said[0].Client == 1 && said[1].Client == 2
	ok = ok && slices.Equal(said[0].Out.N, []int64{int64(a), 0, 0, 2, 1, 1}) && slices.Equal(said[1].Out.N, said[0].Out.N) && slices.Equal(said[2].Out.N, []int64{int64(a), 0, 1, 1, 1, 0})
	want(t, "Expose", ok, true)
	for x := range 4 {
		for y := range 3 {
			p, _ := screen.Look(v.In.Tree, v.Place, v.Canvas, x, y)
			want(t, "shows what is looked up", v.Show().At(x, y), p)
		}
	}
	v.Clients[7] = true
	want(t, "maps of its own", u.Clients[7], false)
	z, _ := world.World{}.Settle(was, nil)
	want(t, "zero", z.Props != nil, true)
}

// P45.3
func TestMessages(t *testing.T) {
	w := full(t)
	w.In.Choice, _ = w.In.Choice.Set(3, a, 3)
	w.In.Choice, _ = w.In.Choice.Set(1, a, 1)
	n := []int64{5}
	l := w.Tell(a, 1, api.Out{Kind: 2, Code: 12, N: n})
	n[0] = 6
	want(t, "Tell", len(l) == 2 && l[0].Client == 1 && l[1].Client == 3 && l[0].Out.N[0] == 5 && len(w.Tell(a, 4, api.Out{})) == 0, true)
	l[0].Out.N[0] = 8
	want(t, "Tell", l[1].Out.N[0], 5)
	want(t, "May", w.May(1, api.ReqDestroyWindow, a) && !w.May(2, api.ReqDestroyWindow, a) && !w.May(1, 99, a) && w.May(2, api.ReqCreateWindow, 1), true)
	for v, told := range map[int64]int64{5: 5, -5: -5, 1<<31 - 1: 1<<31 - 1, 1 << 31: -1 << 31, 1<<32 - 1: -1} {
		s := world.Fault(3, 8, 7, v)
		want(t, "Fault", s.Client == 3 && s.Out.Kind == api.Fault && s.Out.Code == 8 && s.Out.Seq == 0 && slices.Equal(s.Out.N, []int64{told, 7}), true)
	}
	s := world.Reply(3, 12, format.Fields{N: n, B: "b", L: []int64{4}})
	n[0] = 9
	want(t, "Reply", s.Client == 3 && s.Out.Kind == api.Answer && s.Out.Code == 12 && s.Out.N[0] == 6 && s.Out.B == "b" && s.Out.L[0] == 4, true)
}

// P45.4
func TestCheck(t *testing.T) {
	none := []int(nil)
	for i, x := range []struct {
		spoil  func(w *world.World)
		broken []int
	}{
		{func(w *world.World) {}, none},
		{func(w *world.World) { w.Held, _ = w.Held.Add(1, a+9, held.Window) }, []int{1}},
		{func(w *world.World) { w.Held = w.Held.Drop(a) }, []int{1}},
		{func(w *world.World) { w.Canvas = w.Canvas.Drop(a) }, []int{2}},
		{func(w *world.World) { w.Canvas = w.Canvas.Drop(p) }, []int{2}},
		{func(w *world.World) { w.Canvas, _ = w.Canvas.Drop(a).Open(a, 2, 1, 9, true) }, []int{2}},
		{func(w *world.World) {
			w.Place, _ = w.Place.Set(a, place.Box{X: 1, Y: 1, W: 2, H: 2})
			*w, _ = w.Settle(w.In.View, nil)
			g, _ := grid.New(2, 2, 8)
			w.Canvas, _ = w.Canvas.Lay(a, g)
		}, []int{3}},
		{func(w *world.World) { w.Place, _ = w.Place.Set(a, place.Box{X: 2, Y: 1, W: 2, H: 2, Mapped: true}) }, []int{4}},
		{func(w *world.World) { w.Props[a+9] = prop.List{} }, []int{5}},
		{func(w *world.World) { w.Over[a+9] = true }, []int{5}},
		{func(w *world.World) { delete(w.Pens, q) }, []int{5}},
		{func(w *world.World) {
			delete(w.Pens, q)
			w.Pens[f] = pen.New()
		}, []int{5}},
		{func(w *world.World) {
			// Another window, of a lesser id, that isn't mapped: with a backing it may have any pixels.
			for _, backing := range []bool{false, true} {
				id := api.ID(1<<20 + 20)
				if backing {
					id = 1<<20 + 10
				}
				w.In.Tree, _ = w.In.Tree.Add(id, 1)
				w.Held, _ = w.Held.Add(1, id, held.Window)
				w.Place, _ = w.Place.Set(id, place.Box{W: 1, H: 1})
				w.Canvas, _ = w.Canvas.Open(id, 1, 1, 5, backing)
			}
			g, _ := grid.New(1, 1, 8)
			w.Canvas, _ = w.Canvas.Lay(1<<20+10, g)
		}, none},
		{func(w *world.World) { w.Pens[a+9] = pen.New() }, []int{5}},
		{func(w *world.World) { delete(w.Fonts, f) }, []int{5}},
		{func(w *world.World) { w.Fonts[q] = "tiny" }, []int{5}},
		{func(w *world.World) { w.Over[a], w.Props[1] = true, prop.List{} }, none},
		{func(w *world.World) { delete(w.Clients, 1) }, []int{6}},
		{func(w *world.World) { w.In.Choice, _ = w.In.Choice.Set(2, a, 1) }, []int{6}},
		{func(w *world.World) { w.In.Choice, _ = w.In.Choice.Set(2, 99, 1) }, none},
		{func(w *world.World) { w.In.Passive, _ = w.In.Passive.Add(passive.Grab{Client: 2, Window: a}) }, []int{6}},
		{func(w *world.World) { w.In.Keyboard = w.In.Keyboard.Begin(freeze.Active{Client: 2, Window: a}, false) }, []int{6}},
		{func(w *world.World) { w.Claims, _, _ = w.Claims.Set(1024, claim.Claim{Client: 2, Window: a}, 5) }, []int{6}},
		{func(w *world.World) { w.Closed = 2 }, []int{6}},
		{func(w *world.World) { w.Claims, _, _ = w.Claims.Set(1, claim.Claim{Client: 2, Window: a}, 5) }, []int{6}},
		{func(w *world.World) { w.In.Focus.Window = 0 }, none},
		{func(w *world.World) { w.Canvas, _ = w.Canvas.Drop(a).Open(a, 1, 2, 9, true) }, []int{2}},
		{func(w *world.World) { w.In.X = 4 }, []int{7}},
		{func(w *world.World) { w.In.Under = 1 }, []int{7}},
		{func(w *world.World) { w.In.Focus.Window = 99 }, []int{8}},
		{func(w *world.World) { w.In.Focus.Window, w.In.Under, w.Closed = 99, 0, 5 }, []int{6, 7, 8}},
	} {
		w := full(t)
		x.spoil(&w)
		if got := w.Check(); !slices.Equal(got, x.broken) {
			t.Errorf("%d: %v, wanted %v", i, got, x.broken)
		}
	}
}

// P45.5
func TestText(t *testing.T) {
	w := full(t)
	w.Clients[3] = true
	w.Atoms, _, _ = w.Atoms.Intern("more", false)
	l, _ := w.Props[a].Change(0, prop.Prop{Name: 9, Type: 4, Format: 8, Data: []int64{1, 12}})
	w.Props[a], _ = l.Change(0, prop.Prop{Name: 8, Type: 5, Format: 32})
	w.In.Choice, _ = w.In.Choice.Set(3, a, 3)
	w.In.Choice, _ = w.In.Choice.Set(1, a, 5)
	w.In.Choice, _ = w.In.Choice.Stop(a, 6)
	w.Over[a] = true
	b, _ := w.Place.Box(a)
	b.Shaped, b.Shape, b.X = true, band.Of(api.Rect{X: 0, Y: -1, W: 2, H: 3}), -1
	w.Place, _ = w.Place.Set(a, b)
	x := pen.New()
	x.Clipped, x.Clip, x.X = true, []api.Rect{{X: -1, Y: 2, W: 3, H: 4}}, 5
	w.Pens[q] = x
	w.Claims, _, _ = w.Claims.Set(2, claim.Claim{Client: 1, Window: a, Time: 0}, 5)
	w.Claims, _, _ = w.Claims.Set(1, claim.Claim{Client: 3, Window: a, Time: 4}, 5)
	w.Claims, _, _ = w.Claims.Set(1024, claim.Claim{Client: 1, Window: a, Time: 3}, 5)
	w.Saves, _ = w.Saves.Change(8, a, true)
	w.Claims, _ = w.Claims.Convert(claim.Asked{Asker: 3, Requestor: a, Selection: 2, Target: 4, Property: 9, Time: 6})
	w.Saves, _ = w.Saves.Change(3, a, true)
	w.In.Passive, _ = w.In.Passive.Add(passive.Grab{Client: 1, Window: a, Button: true, Code: 2, Mods: 32768, Owner: true, Mask: 12, Pointer: 1})
	w.In.Pointer = w.In.Pointer.Begin(freeze.Active{Client: 1, Window: a, Owner: true, Mask: 5, Passive: true, Code: 2, Time: 7}, true)
	w.In.Pointer, _ = w.In.Pointer.Feed(api.Input{Kind: 5, X: -3, Y: 4, Time: 8, Count: 9})
	w.In.Keyboard, _, _ = w.In.Keyboard.Freeze().Allow(freeze.Sync)
	w.Closed = 3
	id := func(s string) string {
		return strings.NewReplacer("A", "1048577", "P", "1048578", "Q", "1048579", "F", "1048580").Replace(s)
	}
	wanted := `size 4 3 3
client 1
client 3
atom 1 primary
atom 2 secondary
atom 3 clipboard
atom 4 string
atom 5 integer
atom 6 atoms
atom 7 incr
atom 8 title
atom 9 transfer
atom 10 close
atom 11 more
window 1 0 0 0 4 3 1 0 1 1 0 7 1
mark 1 812665
window A 1 -1 1 2 2 1 1 1 0 6 9 0
shape A 0 -1 2 3
mark A 277056
prop A 8 5 32
prop A 9 4 8 1 12
select A 1 5
select A 3 3
held A 1
held P 2
mark P 96
held Q 3
pen Q 3 255 0 1 0 5 0 1 -1 2 3 4
held F 4
font F tiny
claim 1 3 A 4
claim 2 1 A 5
claim 1024 1 A 3
asked 3 A 2 4 9 6
save 3 A
save 8 A
grab 1 A 1 2 32768 1 12 1 0
focus 1 1 0
pointer 2 1 0 0 A 0
device 0 1 0
active 0 1 A 1 5 0 1 2 7
waits 0 5 0 -3 4 8
device 1 0 1
`
	mark := 0
	for range 12 {
		mark = (mark*31 + 7) % 1000003
	}
	wanted = strings.Replace(wanted, "812665", strconv.Itoa(mark), 1)
	wanted = strings.Replace(wanted, "277056", strconv.Itoa(((9*31+9)*31+9)*31+9), 1)
	if got := w.Text(); got != id(wanted) {
		t.Errorf("Text:\n%s\nwanted\n%s", got, id(wanted))
	}
	small, _ := world.New(4, 2, 7)
	want(t, "example", strings.HasPrefix(small.Text(), "size 4 2 0\natom 1 primary\n"), true)
}
