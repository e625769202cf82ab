package panes_test

import (
	"math"
	"math/rand"
	"slices"
	"testing"

	"glazier/api"
	"glazier/claim"
	"glazier/freeze"
	"glazier/gravity"
	"glazier/panes"
	"glazier/passive"
	"glazier/prop"
	"glazier/route"
	"glazier/screen"
	"glazier/told"
	"glazier/world"
)

func want[T comparable](t *testing.T, what string, got, wanted T) {
	t.Helper()
	if got != wanted {
		t.Errorf("%s: %v, wanted %v", what, got, wanted)
	}
}

const a, b, c, m = api.ID(1<<20 + 1), api.ID(1<<20 + 2), api.ID(2<<20 + 1), api.ID(3<<20 + 1)

// do asks a request, and tells what was said: windows as letters.
func do(t *testing.T, w world.World, client, code int, n ...int64) (world.World, string) {
	t.Helper()
	f := map[int]int{8: 2}[code]
	r := api.Request{Code: code, N: n}
	if f > 0 && len(n) > f {
		r.N, r.L = n[:f], n[f:]
	}
	was := w.Text()
	u, said, ok := panes.Do(w, client, r)
	want(t, "one of its requests", ok, true)
	want(t, "as it was", w.Text(), was)
	if broken := u.Check(); len(broken) > 0 {
		t.Errorf("%d %v: rules %v", code, n, broken)
	}
	if len(said) > 0 && said[0].Out.Kind == api.Fault {
		want(t, "a fault changes nothing", u.Text(), was)
	}
	return u, told.Sends(said, "1048577", "a", "1048578", "b", "2097153", "c", "3145729", "m")
}

// example: clients 1, 2 and 3; a of 1 at 2, 1 of 3 by 2, mapped; b of 1 in a at 1, 0 of 2 by 2, not mapped; c of 2 at 4, 2 of 3 by 3, mapped; m of 3, not mapped.
func example(t *testing.T) world.World {
	t.Helper()
	w, _ := world.New(8, 6, 7)
	for n := 1; n <= 3; n++ {
		w.Clients[n] = true
	}
	for _, x := range [][]int64{{1, int64(a), 1, 2, 1, 3, 2, 11, 0, 0}, {1, int64(b), int64(a), 1, 0, 2, 2, 12, 0, 0}, {2, int64(c), 1, 4, 2, 3, 3, 13, 1, 0}, {3, int64(m), 1, 0, 0, 1, 1, 14, 0, 1}} {
		var said string
		w, said = do(t, w, int(x[0]), 1, x[1:]...)
		want(t, "made", said, "")
	}
	w, _ = panes.Map(w, a, true)
	w, _ = panes.Map(w, c, true)
	return w
}

func (x choice) on(t *testing.T, w world.World) world.World {
	t.Helper()
	var e api.Errno
	w.In.Choice, e = w.In.Choice.Set(x.client, x.id, x.mask)
	want(t, "Set", e, api.OK)
	return w
}

type choice struct {
	client int
	id     api.ID
	mask   int
}

// P47.1, P47.2: what is looked at, in order.
func TestLooks(t *testing.T) {
	w := example(t)
	w = choice{3, 1, api.MaskRedirect}.on(t, w)
	w = choice{3, c, api.MaskButtonPress}.on(t, w)
	A, B, C, M := int64(a), int64(b), int64(c), int64(m)
	for i, x := range []struct {
		client, code int
		n            []int64
		said         string
	}{
		{1, 1, []int64{C + 5, 99, 0, 0, 0, 0, 0, 9, 9}, "1 fault 14 2097158 1"}, {1, 1, []int64{A, 99, 0, 0, 0, 0, 0, 9, 9}, "1 fault 14 a 1"}, {1, 1, []int64{1, 99, 0, 0, 0, 0, 0, 9, 9}, "1 fault 14 1 1"}, {1, 1, []int64{A + 5, 99, 0, 0, 0, 0, 0, 9, 9}, "1 fault 3 99 1"}, {1, 1, []int64{A + 5, C, 0, 0, 0, 0, 0, 9, 9}, "1 fault 10 c 1"},
		{1, 1, []int64{A + 5, A, 0, 0, 0, 0, 0, 9, 9}, "1 fault 2 0 1"}, {1, 1, []int64{A + 5, A, 0, 0, 128, 129, 0, 9, 9}, "1 fault 2 129 1"}, {1, 1, []int64{A + 5, A, 0, 0, 0, 5, 0, 0, 0}, "1 fault 2 0 1"}, {1, 1, []int64{A + 5, A, 0, 0, 129, 5, 0, 0, 0}, "1 fault 2 129 1"}, {1, 1, []int64{A + 5, A, 0, 0, 128, 1, 0, 2, 0}, "1 fault 2 2 1"}, {1, 1, []int64{A + 5, A, 0, 0, 1, 128, 0, 0, 2}, "1 fault 2 2 1"}, {1, 7, []int64{A, 8, 0, 0, 0, 2, 0, 0}, "1 fault 2 2 7"}, {1, 7, []int64{A, 16, 0, 0, 0, 0, 8191, 0}, ""}, {1, 7, []int64{A, 32, 0, 0, 0, 0, 0, 8191}, ""}, {1, 7, []int64{A, 6, 0, 10, 10, 0, 0, 0}, ""}, {1, 1, []int64{A + 5, A, 0, 0, 1, 1, 0, 9, 8}, "1 fault 2 9 1"}, {1, 1, []int64{A + 5, A, 0, 0, 1, 1, 0, 1, 8}, "1 fault 2 8 1"}, {1, 1, nil, "1 fault 16 0 1"},
		{1, 2, []int64{99}, "1 fault 3 99 2"}, {2, 2, []int64{A}, "2 fault 10 a 2"}, {1, 2, []int64{1}, "1 fault 10 1 2"}, {3, 2, []int64{A}, "3 fault 10 a 2"},
		{1, 3, []int64{99}, "1 fault 3 99 3"}, {2, 3, []int64{A}, "2 fault 10 a 3"}, {3, 3, []int64{1}, "3 fault 8 1 3"}, {1, 3, []int64{A}, ""}, {1, 4, []int64{99}, "1 fault 3 99 4"}, {2, 4, []int64{A}, "2 fault 10 a 4"}, {3, 4, []int64{1}, "3 fault 8 1 4"}, {1, 4, []int64{B}, ""},
		{1, 5, []int64{99, 32, 0, 0, 0, 0, 5, 9}, "1 fault 3 99 5"}, {2, 5, []int64{A, 32, 0, 0, 0, 0, 5, 9}, "2 fault 10 a 5"}, {3, 5, []int64{1, 32, 0, 0, 0, 0, 5, 9}, "3 fault 8 1 5"}, {1, 5, []int64{A, 32, 0, 0, 0, 0, 5, 9}, "1 fault 2 32 5"}, {1, 5, []int64{A, 31, 0, 0, 0, 0, 5, 9}, "1 fault 2 0 5"}, {1, 5, []int64{A, 24, 0, 0, 0, 129, 5, 9}, "1 fault 2 129 5"}, {1, 5, []int64{A, 16, 0, 0, 0, 0, 5, 5}, "1 fault 2 5 5"},
		{1, 5, []int64{A, 16, 0, 0, 0, 0, 5, 4}, "1 fault 8 5 5"}, {1, 5, []int64{A, 16, 0, 0, 0, 0, A, 4}, "1 fault 8 a 5"}, {1, 5, []int64{A, 16, 0, 0, 0, 0, B, 4}, "1 fault 8 b 5"}, {1, 5, []int64{A, 3, 0, 0, 0, 0, C, 4}, "1 fault 8 c 5"}, {1, 5, []int64{A, 16, 0, 0, 0, 0, C, 0}, "3 event 19 1 a 16 0 0 0 0 c 0"}, {1, 5, []int64{A, 0, 1, 2, 3, 4, 0, 9}, "3 event 19 1 a 0 1 2 3 4 0 9"},
		{1, 6, []int64{99, 98, 0, 0}, "1 fault 3 99 6"}, {2, 6, []int64{A, 98, 0, 0}, "2 fault 10 a 6"}, {3, 6, []int64{1, 98, 0, 0}, "3 fault 8 1 6"}, {1, 6, []int64{A, 98, 0, 0}, "1 fault 3 98 6"}, {1, 6, []int64{A, C, 0, 0}, "1 fault 10 c 6"}, {1, 6, []int64{A, B, 0, 0}, "1 fault 8 b 6"},
		{1, 7, []int64{99, 64, 0, 11, 11, 9, 8192, 8192}, "1 fault 3 99 7"}, {1, 7, []int64{C, 64, 0, 11, 11, 9, 8192, 8192}, "1 fault 2 64 7"}, {1, 7, []int64{C, 63, 0, 11, 11, 9, 8192, 8192}, "1 fault 10 c 7"}, {1, 7, []int64{C, 32, 0, 11, 11, 9, 8192, 8192}, "1 fault 10 c 7"}, {1, 7, []int64{1, 33, 0, 11, 11, 9, 8192, 8192}, "1 fault 10 1 7"}, {1, 7, []int64{1, 32, 0, 11, 11, 9, 8192, 8192}, "1 fault 2 8192 7"},
		{1, 7, []int64{A, 63, 0, 11, 12, 9, 8192, 8193}, "1 fault 2 11 7"}, {1, 7, []int64{A, 60, 0, 11, 12, 9, 8192, 8193}, "1 fault 2 12 7"}, {1, 7, []int64{A, 56, 0, 11, 12, 9, 8192, 8193}, "1 fault 2 9 7"}, {1, 7, []int64{A, 48, 0, 11, 12, 9, 8192, 8193}, "1 fault 2 8192 7"}, {1, 7, []int64{A, 32, 0, 11, 12, 9, 8192, 8193}, "1 fault 2 8193 7"}, {2, 7, []int64{C, 32, 0, 0, 0, 0, 0, 4}, "2 fault 10 c 7"}, {2, 7, []int64{1, 32, 0, 0, 0, 0, 0, 2048}, "2 fault 10 1 7"},
		{1, 8, []int64{99, 9}, "1 fault 3 99 8"}, {2, 8, []int64{A, 9}, "2 fault 10 a 8"}, {1, 8, []int64{1, 9}, "1 fault 10 1 8"}, {1, 8, []int64{A, 9, 1}, "1 fault 2 9 8"}, {1, 8, []int64{A, 1, 1}, "1 fault 8 a 8"}, {1, 8, []int64{A, 0, 0, 0, 1, 1}, "1 fault 8 a 8"}, {1, 8, []int64{A, 1, 0, 0, 1, 1, 0, 0, -1, -2}, "1 fault 2 -1 8"}, {1, 8, []int64{A, 1, 0, 0, 1, -2}, "1 fault 2 -2 8"},
		{1, 8, append([]int64{A, 1}, make([]int64, 257*4)...), "1 fault 2 1028 8"}, {1, 8, append([]int64{A, 1, 0, 0, 3, 2}, make([]int64, 255*4)...), ""},
		{2, 9, []int64{99}, "2 fault 3 99 9"}, {2, 9, []int64{A}, "2 answer 9 1 2 1 3 2 1 1"}, {2, 9, []int64{B}, "2 answer 9 a 1 0 2 2 0 0"}, {2, 9, []int64{1}, "2 answer 9 0 0 0 8 6 1 1"}, {2, 10, []int64{99}, "2 fault 3 99 10"}, {2, 10, []int64{1}, "2 answer 10 0 row a c m"}, {2, 10, []int64{A}, "2 answer 10 1 row b"}, {2, 10, []int64{B}, "2 answer 10 a"},
		{1, 54, []int64{99, 9}, "1 fault 3 99 54"}, {1, 54, []int64{A, 9}, "1 fault 10 a 54"}, {3, 54, []int64{1, 9}, "3 fault 8 1 54"}, {3, 54, []int64{A, 9}, "3 fault 2 9 54"}, {3, 54, []int64{A, 1}, ""}, {3, 54, []int64{M, 1}, "3 fault 8 m 54"},
	} {
		if _, said := do(t, w, x.client, x.code, x.n...); said != x.said {
			t.Errorf("%d: request %d %v: %s, wanted %s", i, x.code, x.n, said, x.said)
		}
	}
	for _, code := range []int{0, 11, 53, 55, 99} {
		u, said, ok := panes.Do(w, 1, api.Request{Code: code})
		want(t, "other code", !ok && len(said) == 0 && u.Text() == w.Text(), true)
	}
	want(t, "Codes", slices.Equal(panes.Codes(), []int{1, 2, 3, 4, 5, 6, 7, 8, 9, 10, 54}), true)
}

// P47.2: how many windows there may be.
func TestAlloc(t *testing.T) {
	w, _ := world.New(8, 6, 7)
	w.Clients[1] = true
	var said string
	for i := int64(1); i <= 64; i++ {
		w, said = do(t, w, 1, 1, 1<<20+i, 1, 0, 0, 1, 1, 0, 0, 0)
	}
	want(t, "the 64th one", said, "1 fault 11 1048640 1")
}

// P47.2, P47.3: made, mapped, redirected, unmapped, and what is told.
func TestMapping(t *testing.T) {
	w := example(t)
	want(t, "Show", screen.Text(w.Show()), "0707070707070707\n07070b0b0b070707\n07070b0b0d0d0d07\n070707070d0d0d07\n070707070d0d0d07\n0707070707070707\n")
	w = choice{2, 1, api.MaskKids}.on(t, w)
	w = choice{1, a, api.MaskStructure | api.MaskExpose}.on(t, w)
	_, said := do(t, w, 1, 1, int64(a)+7, 1, -3, 4, 5, 6, 0, 1, 1)
	want(t, "create", said, "2 event 13 1 1048584 -3 4 5 6 1")
	u, said := do(t, w, 1, 4, int64(a))
	want(t, "unmap", said, "1 event 16 a a; 2 event 16 1 a")
	u, said = do(t, u, 1, 3, int64(a))
	want(t, "map", said, "1 event 15 a a 0; 2 event 15 1 a 0; 1 event 10 a 0 0 3 1 1; 1 event 10 a 0 1 2 1 0")
	w = choice{3, 1, api.MaskRedirect}.on(t, w)
	u, _ = panes.Map(w, a, false)
	u2, said := do(t, u, 1, 3, int64(a))
	want(t, "redirected", said+u2.Text(), "3 event 17 1 a"+u.Text())
	_, said = do(t, u, 3, 3, int64(a))
	want(t, "by the manager", said, "1 event 15 a a 0; 2 event 15 1 a 0; 1 event 10 a 0 0 3 1 1; 1 event 10 a 0 1 2 1 0")
	_, said = do(t, w, 3, 3, int64(m))
	want(t, "overrides", said, "2 event 15 1 m 1")
	for _, id := range []api.ID{1, 99} {
		v, l := panes.Map(w, id, false)
		want(t, "Map", len(l) == 0 && v.Text() == w.Text(), true)
	}
	v, l := panes.Map(w, a, true)
	want(t, "Map", len(l) == 0 && v.Text() == w.Text(), true)
}

// P47.4
func TestConfigure(t *testing.T) {
	w := example(t)
	w = choice{2, 1, api.MaskKids}.on(t, w)
	w = choice{1, a, api.MaskStructure | api.MaskExpose}.on(t, w)
	u, said := do(t, w, 1, 5, int64(a), 31, 3, 0, 4, 3, int64(c), 0)
	want(t, "configure", said, "1 event 18 a a c 3 0 4 3 0; 2 event 18 1 a c 3 0 4 3 0; 1 event 10 a 0 0 4 3 0")
	want(t, "Show", screen.Text(u.Show()), "0707070b0b0b0b07\n0707070b0b0b0b07\n0707070b0b0b0b07\n070707070d0d0d07\n070707070d0d0d07\n0707070707070707\n")
	for mask, r := range map[int64]api.Rect{1: {X: 4, Y: 1, W: 3, H: 2}, 2: {X: 2, Y: 5, W: 3, H: 2}, 4: {X: 2, Y: 1, W: 6, H: 2}, 8: {X: 2, Y: 1, W: 3, H: 7}} {
		u, _ := do(t, w, 1, 5, int64(a), mask, 4, 5, 6, 7, 0, 9)
		b, _ := u.Place.Box(a)
		want(t, "as the mask has it", b.X == r.X && b.Y == r.Y && b.W == r.W && b.H == r.H, true)
	}
	_, said = do(t, w, 1, 5, int64(a), 3, 2, 1, 9, 9, 0, 9)
	want(t, "nothing", said, "")
	_, said = do(t, w, 1, 5, int64(a), 16, 0, 0, 0, 0, 0, 0)
	want(t, "raised", said, "1 event 18 a a m 2 1 3 2 0; 2 event 18 1 a m 2 1 3 2 0; 1 event 10 a 2 1 1 1 0")
	// The contents by the bits, kids by their gravity.
	w, _ = do(t, w, 1, 7, int64(a), 4, 0, 0, gravity.East, 0, 0, 0)
	w, _ = do(t, w, 1, 7, int64(b), 2, 0, gravity.SouthEast, 0, 0, 0, 0)
	_, said = do(t, w, 1, 5, int64(a), 7, 0, 1, 5, 0, 0, 9)
	want(t, "by bits", said, "1 event 18 a a 0 0 1 5 2 0; 2 event 18 1 a 0 0 1 5 2 0; 1 event 10 a 0 0 2 2 0")
	u, _ = do(t, w, 1, 5, int64(a), 7, 0, 1, 5, 0, 0, 9)
	box, _ := u.Place.Box(b)
	want(t, "the kid", box.X*10+box.Y, 30)
	for _, x := range []struct {
		id      api.ID
		mask    int
		r       api.Rect
		sibling api.ID
		mode    int
		e       api.Errno
	}{
		{1, 31, api.Rect{}, 99, 9, api.ErrRoot}, {99, 31, api.Rect{}, 99, 9, api.ErrNone}, {a, 31, api.Rect{X: 32768}, 99, 9, api.ErrRange}, {a, 31, api.Rect{W: 129, H: 1}, 99, 9, api.ErrSize}, {a, 4, api.Rect{W: math.MaxInt}, 99, 9, api.ErrSize}, {a, 19, api.Rect{}, 99, 9, api.ErrKind}, {a, 19, api.Rect{}, 99, 0, api.ErrMatch},
	} {
		v, l, e := panes.Configure(w, x.id, x.mask, x.r, x.sibling, x.mode)
		want(t, "Configure", e == x.e && len(l) == 0 && v.Text() == w.Text(), true)
	}
	// A kid that would come too far.
	w, _ = do(t, w, 1, 5, int64(b), 1, 32767, 0, 0, 0, 0, 0)
	_, said = do(t, w, 1, 5, int64(a), 4, 0, 0, 128, 0, 0, 0)
	want(t, "too far", said, "1 fault 8 a 5")
}

// P47.5
func TestReparent(t *testing.T) {
	w := example(t)
	w = choice{2, 1, api.MaskKids}.on(t, w)
	w = choice{1, a, api.MaskStructure | api.MaskExpose | api.MaskKids}.on(t, w)
	w = choice{1, b, api.MaskStructure}.on(t, w)
	u, said := do(t, w, 1, 6, int64(a), 1, 5, 0)
	want(t, "mapped", said, "1 event 16 a a; 2 event 16 1 a; 1 event 20 a a 1 5 0 0; 2 event 20 1 a 1 5 0 0; 1 event 15 a a 0; 2 event 15 1 a 0; 1 event 10 a 0 0 3 2 0")
	want(t, "on top", slices.Equal(u.In.Tree.Kids(1), []api.ID{c, m, a}), true)
	u, said = do(t, w, 1, 6, int64(b), 1, -5, 6)
	want(t, "not mapped", said, "1 event 20 b b 1 -5 6 0; 1 event 20 a b 1 -5 6 0; 2 event 20 1 b 1 -5 6 0")
	v, _, e := panes.Reparent(w, b, 1, 32767, -32768)
	y, _ := v.Place.Box(b)
	want(t, "far", e == api.OK && y.X == 32767 && y.Y == -32768, true)
	v.Clients[7] = true
	want(t, "maps of its own", w.Clients[7], false)
	x, _ := u.Place.Box(b)
	want(t, "there", x.X == -5 && x.Y == 6 && !x.Mapped, true)
	for _, y := range []struct {
		id, parent api.ID
		x          int
		e          api.Errno
	}{{1, 99, 99999, api.ErrRoot}, {99, 98, 99999, api.ErrNone}, {a, 99, 99999, api.ErrNone}, {a, b, 99999, api.ErrRing}, {a, c, 32768, api.ErrRange}, {a, c, -32769, api.ErrRange}} {
		v, l, e := panes.Reparent(w, y.id, y.parent, y.x, 0)
		want(t, "Reparent", e == y.e && len(l) == 0 && v.Text() == w.Text(), true)
	}
}

// P47.6
func TestDestroy(t *testing.T) {
	w := example(t)
	w = choice{2, 1, api.MaskKids | api.MaskKeyPress}.on(t, w)
	w = choice{1, a, api.MaskStructure | api.MaskKids}.on(t, w)
	w = choice{1, b, api.MaskStructure}.on(t, w)
	l, _ := w.Props[b].Change(0, prop.Prop{Name: 8, Type: 4, Format: 8})
	w.Props[b], w.Over[b] = l, true
	w.Saves, _ = w.Saves.Change(3, b, true)
	w.Claims, _, _ = w.Claims.Set(1, claim.Claim{Client: 1, Window: b}, 0)
	w.Claims, _ = w.Claims.Convert(claim.Asked{Asker: 2, Requestor: c, Selection: 1, Target: 4, Property: 9, Time: 3})
	w.Claims, _, _ = w.Claims.Set(2, claim.Claim{Client: 1, Window: m}, 0)
	w = choice{1, 1, api.MaskMotion}.on(t, w)
	w.In.Passive, _ = w.In.Passive.Add(passive.Grab{Client: 3, Window: b, Code: 1})
	w.In, _, _ = route.Grab(w.In, false, freeze.Active{Client: 3, Window: 1}, 0, freeze.Sync)
	w.In.Pointer = w.In.Pointer.Begin(freeze.Active{Client: 3, Window: a}, false)
	u, said := do(t, w, 1, 2, int64(a))
	want(t, "destroy", said, "1 event 16 a a; 2 event 16 1 a; 1 event 14 b b; 1 event 14 a b; 1 event 14 a a; 2 event 14 1 a; 2 event 24 c 1 4 0 3")
	_, others := u.Claims.Owner(2)
	want(t, "others", others && u.In.Choice.Mask(1, 1) == api.MaskMotion, true)
	_, grabbed := u.In.Pointer.Active()
	_, keys := u.In.Keyboard.Active()
	want(t, "gone", grabbed || !keys || len(u.Saves.Of(3)) > 0 || len(u.In.Passive.All()) > 0 || u.In.Choice.Mask(1, a) > 0 || len(u.Props) > 0 || u.Over[b] || u.Held.Kind(b) != 0, false)
	for _, id := range []api.ID{1, 99} {
		v, l := panes.Destroy(w, id)
		want(t, "Destroy", len(l) == 0 && v.Text() == w.Text(), true)
	}
}

// P47.2: change-window and shape-window.
func TestChange(t *testing.T) {
	w := example(t)
	u, _ := do(t, w, 1, 7, int64(a), 63, 99, 3, 10, 1, 5, 512)
	x, _ := u.Place.Box(a)
	p, _, _ := u.Canvas.Ground(a)
	want(t, "changed", p == 99 && x.Grav == 3 && x.Bits == 10 && u.Over[a] && u.In.Choice.Stopped(a) == 5 && u.In.Choice.Mask(1, a) == 512, true)
	g, _ := u.Canvas.Grid(a)
	want(t, "where it doesn't show", g.At(0, 0) == 11 && g.At(2, 1) == 99, true)
	u, _ = do(t, u, 1, 7, int64(a), 8, 0, 0, 0, 0, 0, 0)
	want(t, "overrides no more", u.Over[a], false)
	u, _ = do(t, w, 1, 7, int64(a), 0, 99, 3, 10, 1, 5, 512)
	want(t, "by no mask", u.Text(), w.Text())
	u, _ = do(t, w, 1, 8, int64(a), 1, 0, 0, 1, 2, 2, 0, 5, 1)
	want(t, "shaped", screen.Text(u.Show()), "0707070707070707\n07070b070b070707\n07070b070d0d0d07\n070707070d0d0d07\n070707070d0d0d07\n0707070707070707\n")
	u, _ = do(t, u, 1, 8, int64(a), 0)
	want(t, "no shape", screen.Text(u.Show()), screen.Text(w.Show()))
	u, _ = do(t, u, 1, 8, int64(a), 1)
	want(t, "an empty one", u.In.View.Visible(a).Empty() && u.In.View.Viewable(a), true)
}

// P47.7: whatever is asked.
func TestFollows(t *testing.T) {
	rnd := rand.New(rand.NewSource(11))
	for range 12 {
		w, _ := world.New(20, 16, 1)
		w.Clients[1], w.Clients[2] = true, true
		id := func() int64 { return int64(1+rnd.Intn(2))<<20 + int64(1+rnd.Intn(5)) }
		for range 150 {
			client := 1 + rnd.Intn(2)
			parent := id()
			if rnd.Intn(2) == 0 {
				parent = 1
			}
			x, y, s := int64(rnd.Intn(20)-4), int64(rnd.Intn(20)-4), func() int64 { return int64(1 + rnd.Intn(12)) }
			switch rnd.Intn(9) {
			case 0, 1:
				n := int64(client)<<20 + int64(1+rnd.Intn(5))
				w, _ = do(t, w, client, 1, n, parent, x, y, s(), s(), int64(rnd.Intn(256)), int64(rnd.Intn(2)), int64(rnd.Intn(2)))
				w, _ = do(t, w, client, 3, n)
			case 2:
				w, _ = do(t, w, client, 3+rnd.Intn(2), id())
			case 3:
				w, _ = do(t, w, client, 5, id(), int64(rnd.Intn(32)), x, y, s(), s(), []int64{0, id()}[rnd.Intn(2)], int64(rnd.Intn(5)))
			case 4:
				w, _ = do(t, w, client, 6, id(), parent, x, y)
			case 5:
				w, _ = do(t, w, client, 7, []int64{id(), 1}[rnd.Intn(2)], []int64{32, int64(rnd.Intn(64))}[rnd.Intn(2)], int64(rnd.Intn(256)), int64(rnd.Intn(11)), int64(rnd.Intn(11)), int64(rnd.Intn(2)), 0, int64(rnd.Intn(8192)))
			case 6:
				w, _ = do(t, w, client, 8, id(), 1, 0, 0, s(), s(), x, y, s(), s())
			case 7:
				w, _ = do(t, w, client, 54, id(), 1)
			case 8:
				if rnd.Intn(4) == 0 {
					w, _ = do(t, w, client, 2, id())
				}
			}
		}
		for x := range 20 {
			for y := range 16 {
				p, _ := screen.Look(w.In.Tree, w.Place, w.Canvas, x, y)
				want(t, "the screen", w.Show().At(x, y), p)
			}
		}
		w, _ = world.New(20, 16, 1)
		w.Clients[1] = true
		was := w.In.Tree.Below(1)
		w, _ = do(t, w, 1, 1, int64(a), 1, 0, 0, 1, 1, 0, 0, 0)
		w, _ = do(t, w, 1, 2, int64(a))
		want(t, "made, and destroyed", slices.Equal(w.In.Tree.Below(1), was), true)
	}
}
