package place_test

import (
	"maps"
	"testing"

	"glazier/api"
	"glazier/band"
	"glazier/gravity"
	"glazier/place"
	"glazier/tree"
)

func rc(x, y, w, h int) api.Rect { return api.Rect{X: x, Y: y, W: w, H: h} }

func want[T comparable](t *testing.T, what string, got, wanted T) {
	t.Helper()
	if got != wanted {
		t.Errorf("%s: %v, wanted %v", what, got, wanted)
	}
}

const a, b, c = api.ID(1<<20 + 1), api.ID(1<<20 + 2), api.ID(1<<20 + 3)

func rectOf(x place.Box) api.Rect { return rc(x.X, x.Y, x.W, x.H) }

func at(p place.Place, id api.ID) api.Rect {
	x, _ := p.Box(id)
	return rectOf(x)
}

func set(t *testing.T, p place.Place, id api.ID, x place.Box) place.Place {
	t.Helper()
	p, e := p.Set(id, x)
	want(t, "Set", e, api.OK)
	return p
}

// a on the root, b in a, c beside a.
func example(t *testing.T) (tree.Tree, place.Place) {
	u, _ := tree.New().Add(a, 1)
	u, _ = u.Add(b, a)
	u, _ = u.Add(c, 1)
	p, e := place.New(20, 20)
	want(t, "New", e, api.OK)
	p = set(t, p, a, place.Box{X: 2, Y: 3, W: 10, H: 10})
	p = set(t, p, b, place.Box{X: 1, Y: 1, W: 2, H: 2, Mapped: true, Grav: gravity.SouthEast})
	return u, set(t, p, c, place.Box{X: 5, Y: 5, W: 3, H: 3, Mapped: true})
}

// P30.1, P30.4
func TestSet(t *testing.T) {
	for _, s := range [][2]int{{0, 1}, {1, 0}, {129, 1}, {1, 129}} {
		_, e := place.New(s[0], s[1])
		want(t, "New", e, api.ErrSize)
	}
	_, p := example(t)
	root, ok := p.Box(1)
	want(t, "root", ok && rectOf(root) == rc(0, 0, 20, 20) && root.Mapped && root.Grav == 1 && root.Bits == 1 && !root.Shaped, true)
	shape := band.Of(rc(0, 0, 2, 2), rc(5, 5, 9, 9))
	for _, x := range []struct {
		id api.ID
		b  place.Box
		e  api.Errno
	}{
		{1, place.Box{X: 99999}, api.ErrRoot}, {0, place.Box{X: 99999}, api.ErrNone}, {7, place.Box{X: 99999}, api.ErrRange}, {a, place.Box{X: 32768, W: 0}, api.ErrRange}, {a, place.Box{Y: -32769, W: 0}, api.ErrRange}, {a, place.Box{W: 0, H: 1, Grav: 99}, api.ErrSize}, {a, place.Box{W: 1, H: 129, Grav: 99}, api.ErrSize},
		{a, place.Box{W: 1, H: 1, Grav: 11, Shape: shape}, api.ErrKind}, {a, place.Box{W: 1, H: 1, Bits: -1, Shape: shape}, api.ErrKind}, {a, place.Box{W: 1, H: 1, Shape: shape}, api.ErrMatch}, {a, place.Box{X: -32768, Y: 32767, W: 128, H: 128, Grav: 10, Shaped: true, Shape: shape}, api.OK},
	} {
		q, e := p.Set(x.id, x.b)
		want(t, "Set", e, x.e)
		want(t, "as it was", at(q, a) == at(p, a) && at(q, b) == at(p, b), e != api.OK)
	}
	_, e := place.Place{}.Set(a, place.Box{W: 1, H: 1})
	want(t, "zero", e, api.ErrState)
	for i := api.ID(10); i < 70; i++ {
		p = set(t, p, 2<<20+i, place.Box{W: 1, H: 1})
	}
	_, e = p.Set(3<<20+1, place.Box{W: 1, H: 1})
	want(t, "many", e, api.ErrMany)
	p = set(t, p, a, place.Box{W: 1, H: 1})
	p = p.Drop(a, 1, 99)
	_, ok = p.Box(a)
	_, root2 := p.Box(1)
	want(t, "Drop", !ok && root2, true)
}

// P30.2
func TestLooks(t *testing.T) {
	u, p := example(t)
	for _, x := range []struct {
		id api.ID
		p  api.Point
		ok bool
	}{{b, api.Point{X: 3, Y: 4}, true}, {1, api.Point{}, true}, {99, api.Point{}, false}} {
		o, ok := p.Origin(u, x.id)
		want(t, "Origin", o == x.p && ok == x.ok, true)
	}
	o, ok := p.Drop(a).Origin(u, b)
	want(t, "Origin", o == api.Point{} && !ok, true)
	_, ok = place.Place{}.Origin(u, 1)
	want(t, "Origin", ok, false)
	q := set(t, p, a, place.Box{W: 4, H: 3, Shaped: true, Shape: band.Of(rc(-5, -5, 7, 7), rc(3, 0, 9, 1))})
	want(t, "Area", band.Same(q.Area(a), band.Of(rc(0, 0, 2, 2), rc(3, 0, 1, 1))) && q.Area(99).Empty() && band.Same(q.Area(b), band.Of(rc(0, 0, 2, 2))), true)
	q = set(t, p, a, place.Box{W: 4, H: 3, Shaped: true})
	want(t, "Area", q.Area(a).Empty(), true)
	want(t, "Mates", maps.Equal(p.Mates(u, b), map[api.ID]api.Rect{b: rc(1, 1, 2, 2)}) && maps.Equal(p.Mates(u, a), map[api.ID]api.Rect{c: rc(5, 5, 3, 3)}) && len(p.Mates(u, 1))+len(p.Mates(u, 99)) == 0, true)
}

// P30.3, P30.4
func TestResize(t *testing.T) {
	u, p := example(t)
	q, e := p.Resize(u, a, rc(2, 3, 12, 9))
	want(t, "Resize", e == api.OK && at(q, a) == rc(2, 3, 12, 9) && at(q, b) == rc(3, 0, 2, 2) && at(q, c) == at(p, c), true)
	back, _ := q.Resize(u, a, rc(2, 3, 10, 10))
	want(t, "back", at(back, b), at(p, b))
	for _, x := range []struct {
		id api.ID
		r  api.Rect
		e  api.Errno
	}{{1, rc(99999, 0, 0, 0), api.ErrRoot}, {99, rc(99999, 0, 0, 0), api.ErrNone}, {a, rc(32768, 0, 0, 0), api.ErrRange}, {a, rc(0, -32769, 0, 0), api.ErrRange}, {a, rc(0, 0, 0, 1), api.ErrSize}, {a, rc(0, 0, 1, 129), api.ErrSize}} {
		q, e := p.Resize(u, x.id, x.r)
		want(t, "Resize", e == x.e && at(q, a) == at(p, a), true)
	}
	_, e = p.Drop(a).Resize(u, a, rc(0, 0, 1, 1))
	want(t, "Resize", e, api.ErrNone)
	_, e = p.Resize(tree.New(), a, rc(0, 0, 1, 1))
	want(t, "Resize", e, api.ErrNone)
	far := set(t, p, b, place.Box{X: 32767, W: 1, H: 1, Grav: gravity.East})
	q, e = far.Resize(u, a, rc(2, 3, 11, 10))
	want(t, "a kid too far", e == api.ErrRange && at(q, a) == at(p, a), true)
	still := set(t, p, b, place.Box{X: 1, Y: 1, W: 1, H: 1, Grav: gravity.Static})
	o, _ := still.Origin(u, b)
	still, _ = still.Resize(u, a, rc(7, 9, 10, 10))
	now, _ := still.Origin(u, b)
	want(t, "Static stays", now, o)
	set(t, p, b, place.Box{X: 1, Y: 1, W: 1, H: 1})
	p, _ = set(t, p, b, place.Box{X: 1, Y: 1, W: 1, H: 1}).Resize(u, a, rc(7, 9, 50, 50))
	want(t, "Forget stays", at(p, b), rc(1, 1, 1, 1))
}
