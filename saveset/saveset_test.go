package saveset_test

import (
	"math/rand"
	"slices"
	"testing"

	"glazier/api"
	"glazier/place"
	"glazier/saveset"
	"glazier/tree"
)

func want[T comparable](t *testing.T, what string, got, wanted T) {
	t.Helper()
	if got != wanted {
		t.Errorf("%s: %v, wanted %v", what, got, wanted)
	}
}

func id(client, n int) api.ID { return api.ID(client<<20 + n) }

// P43.1
func TestChange(t *testing.T) {
	s, e := saveset.Set{}.Change(1, id(2, 5), true)
	want(t, "Change", e, api.OK)
	s, _ = s.Change(1, id(3, 4), true)
	s, _ = s.Change(1, id(2, 5), true)
	s, _ = s.Change(4, id(2, 5), true)
	want(t, "Of", slices.Equal(s.Of(1), []api.ID{id(2, 5), id(3, 4)}) && slices.Equal(s.Of(4), []api.ID{id(2, 5)}) && len(s.Of(0))+len(s.Of(2))+len(s.Of(9)) == 0, true)
	for _, x := range []struct {
		client int
		id     api.ID
		e      api.Errno
	}{{0, 0, api.ErrRange}, {9, 0, api.ErrRange}, {1, 0, api.ErrNone}, {1, 7, api.ErrRange}, {1, 1, api.ErrRoot}, {1, id(1, 5), api.ErrOwner}} {
		for _, add := range []bool{false, true} {
			u, e := s.Change(x.client, x.id, add)
			want(t, "Change", e == x.e && len(u.Of(1)) == 2, true)
		}
	}
	last, e := s.Change(8, id(2, 5), true)
	want(t, "client 8", e == api.OK && len(last.Of(8)) == 1, true)
	u, e := s.Change(1, id(2, 5), false)
	want(t, "without", e == api.OK && len(u.Of(1)) == 1 && len(s.Of(1)) == 2, true)
	_, e = u.Change(1, id(2, 5), false)
	want(t, "isn't there", e, api.OK)
	want(t, "Drop", len(s.Drop(1).Of(1))*10+len(s.Drop(1).Of(4)), 1)
	d := s.Drop(0, id(2, 5))
	want(t, "Drop", len(d.Of(1))*10+len(d.Of(4)), 10)
	many := saveset.Set{}
	for i := 1; i <= 64; i++ {
		many, _ = many.Change(1, id(2, i), true)
	}
	_, e = many.Change(1, id(2, 65), true)
	want(t, "many", e, api.ErrMany)
	_, e = many.Change(1, id(2, 64), true)
	want(t, "there already", e, api.OK)
	_, e = many.Change(1, id(2, 99), false)
	want(t, "away", e, api.OK)
}

func grow(t *testing.T, u tree.Tree, p place.Place, w, parent api.ID, x, y int, mapped bool) (tree.Tree, place.Place) {
	u, e := u.Add(w, parent)
	p, f := p.Set(w, place.Box{X: x, Y: y, W: 5, H: 5, Mapped: mapped})
	want(t, "grow", e == api.OK && f == api.OK, true)
	return u, p
}

// P43.2
func TestRescue(t *testing.T) {
	p, _ := place.New(50, 50)
	u, p := grow(t, tree.New(), p, id(1, 1), 1, 10, 20, true) // a frame
	u, p = grow(t, u, p, id(2, 1), id(1, 1), 3, 4, true)      // saved
	u, p = grow(t, u, p, id(2, 2), id(2, 1), 1, 1, false)     // saved, in a saved one
	u, p = grow(t, u, p, id(2, 3), id(1, 1), 5, 5, false)     // saved
	u, p = grow(t, u, p, id(3, 1), id(2, 3), 2, 2, true)      // lives on in that
	u, p = grow(t, u, p, id(1, 2), id(3, 1), 1, 1, true)      // own, in what lives on
	u, p = grow(t, u, p, id(2, 4), id(1, 2), 7, 8, true)      // saved, in own, in what lives on
	u, p = grow(t, u, p, id(2, 5), 1, 1, 1, true)             // saved, on the root
	u, p = grow(t, u, p, id(2, 6), id(1, 1), 1, 1, true)      // not saved
	s := saveset.Set{}
	for _, n := range []int{1, 2, 3, 4, 5, 9} {
		s, _ = s.Change(1, id(2, n), true)
	}
	own := []api.ID{id(1, 1), id(1, 2)}
	l := saveset.Rescue(u, p, s, 1, own)
	want(t, "Rescue", slices.Equal(l, []saveset.Move{{id(2, 1), 1, 13, 24, false}, {id(2, 3), 1, 15, 25, true}, {id(2, 4), id(3, 1), 8, 9, false}}), true)
	want(t, "own", len(saveset.Rescue(u, p, s, 1, append(own, id(2, 1), id(2, 3), id(2, 4)))), 1)
	want(t, "none", len(saveset.Rescue(u, p, s, 0, own))+len(saveset.Rescue(u, p, s, 2, own))+len(saveset.Rescue(u, p, s, 9, own)), 0)
	l = saveset.Rescue(u, p.Drop(id(2, 1)), s, 1, own)
	want(t, "no place", slices.Equal(l, []saveset.Move{{id(2, 3), 1, 15, 25, true}, {id(2, 4), id(3, 1), 8, 9, false}}), true)
}

// P43.3
func TestFollows(t *testing.T) {
	rnd := rand.New(rand.NewSource(1))
	for range 200 {
		u := tree.New()
		p, _ := place.New(50, 50)
		s, own := saveset.Set{}, []api.ID(nil)
		for i := 1; i < 15; i++ {
			w, l := id(1+rnd.Intn(2), i), u.Below(1)
			u, p = grow(t, u, p, w, l[rnd.Intn(len(l))], rnd.Intn(20)-5, rnd.Intn(20)-5, true)
			if w < 2<<20 {
				own = append(own, w)
			} else if rnd.Intn(2) == 0 {
				s, _ = s.Change(1, w, true)
			}
		}
		was := map[api.ID]api.Point{}
		for _, w := range u.Below(1) {
			was[w], _ = p.Origin(u, w)
		}
		v, q := u, p
		for _, m := range saveset.Rescue(u, p, s, 1, own) {
			v, _ = v.Move(m.ID, m.Parent)
			b, _ := q.Box(m.ID)
			b.X, b.Y = m.X, m.Y
			q, _ = q.Set(m.ID, b)
			for _, w := range v.Path(m.Parent) {
				want(t, "no window of own", slices.Contains(own, w), false)
			}
		}
		for _, w := range s.Of(1) {
			at, _ := q.Origin(v, w)
			want(t, "where it was", at, was[w])
			for _, above := range v.Path(w) {
				want(t, "in no window of own", slices.Contains(own, above), false)
			}
		}
	}
}
