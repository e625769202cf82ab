package tree_test

import (
	"math/rand"
	"slices"
	"testing"

	"glazier/api"
	"glazier/ident"
	"glazier/tree"
)

func want[T comparable](t *testing.T, what string, got, wanted T) {
	t.Helper()
	if got != wanted {
		t.Errorf("%s: %v, wanted %v", what, got, wanted)
	}
}

func list(t *testing.T, what string, got []api.ID, wanted ...api.ID) {
	t.Helper()
	if !slices.Equal(got, wanted) {
		t.Errorf("%s: %v, wanted %v", what, got, wanted)
	}
}

const a, b, c, d = api.ID(1<<20 + 1), api.ID(1<<20 + 2), api.ID(1<<20 + 3), api.ID(1<<20 + 4)

func example(t *testing.T) tree.Tree {
	t.Helper()
	u := tree.New()
	for _, x := range [][2]api.ID{{a, 1}, {b, 1}, {c, 1}, {d, b}} {
		var e api.Errno
		if u, e = u.Add(x[0], x[1]); e != api.OK {
			t.Fatal(e)
		}
	}
	return u
}

// P28.1
func TestChanges(t *testing.T) {
	u := example(t)
	list(t, "Below", u.Below(1), 1, a, b, d, c)
	p, e := u.Place(a, 2)
	want(t, "Place", e, api.OK)
	list(t, "Place", p.Below(1), 1, b, d, c, a)
	list(t, "as it was", u.Below(1), 1, a, b, d, c)
	r, gone, e := u.Remove(b)
	want(t, "Remove", e, api.OK)
	list(t, "gone", gone, d, b)
	list(t, "Remove", r.Below(1), 1, a, c)
	_, there := r.Parent(d)
	want(t, "gone", r.Has(b) || r.Has(d) || there || len(r.Path(d)) > 0 || !u.Has(b), false)
	anew, e := r.Add(b, 1)
	want(t, "anew", e, api.OK)
	list(t, "anew", anew.Below(1), 1, a, c, b)
	m, e := u.Move(a, b)
	want(t, "Move", e, api.OK)
	list(t, "Move", m.Below(1), 1, b, d, a, c)
	m, e = u.Move(a, 1)
	want(t, "Move", e, api.OK)
	list(t, "Move", m.Below(1), 1, b, d, c, a)
	m, _ = u.Move(b, a)
	list(t, "Move", m.Below(1), 1, a, b, d, c)
	for _, x := range []struct {
		id, parent api.ID
		e          api.Errno
	}{{0, 99, api.ErrNone}, {5, 99, api.ErrRange}, {1, 99, api.ErrTwice}, {a, 99, api.ErrTwice}, {d + 1, 99, api.ErrNone}, {d + 1, 0, api.ErrNone}, {d + 1, d, api.OK}} {
		v, e := u.Add(x.id, x.parent)
		want(t, "Add", e, x.e)
		want(t, "Add", len(v.Below(1)) == 5, e != api.OK)
	}
	for _, x := range []struct {
		id, parent api.ID
		e          api.Errno
	}{{1, 99, api.ErrRoot}, {99, 98, api.ErrNone}, {a, 99, api.ErrNone}, {b, b, api.ErrRing}, {b, d, api.ErrRing}} {
		v, e := u.Move(x.id, x.parent)
		want(t, "Move", e, x.e)
		list(t, "Move", v.Below(1), 1, a, b, d, c)
	}
	for _, x := range []struct {
		id api.ID
		at int
		e  api.Errno
	}{{1, 99, api.ErrRoot}, {99, 99, api.ErrNone}, {a, -1, api.ErrRange}, {a, 3, api.ErrRange}, {d, 1, api.ErrRange}, {d, 0, api.OK}} {
		v, e := u.Place(x.id, x.at)
		want(t, "Place", e, x.e)
		list(t, "Place", v.Below(1), 1, a, b, d, c)
	}
	_, gone, e = u.Remove(1)
	want(t, "Remove", e == api.ErrRoot && len(gone) == 0, true)
	_, _, e = u.Remove(99)
	want(t, "Remove", e, api.ErrNone)
}

// P28.1: how many there may be.
func TestMany(t *testing.T) {
	u := tree.New()
	for i := api.ID(1); i < 64; i++ {
		var e api.Errno
		parent := 3<<20 + i - 1
		if i == 1 {
			parent = 1
		}
		u, e = u.Add(3<<20+i, parent)
		want(t, "Add", e, api.OK)
	}
	_, e := u.Add(3<<20+99, 1)
	want(t, "Add", e, api.ErrMany)
	want(t, "Below", len(u.Below(1)), 64)
}

// P28.2
func TestLooks(t *testing.T) {
	u := example(t)
	list(t, "Kids", u.Kids(1), a, b, c)
	list(t, "Kids", u.Kids(99))
	list(t, "Path", u.Path(d), d, b, 1)
	list(t, "Path", u.Path(99))
	list(t, "Below", u.Below(b), b, d)
	list(t, "Below", u.Below(0))
	p, ok := u.Parent(d)
	want(t, "Parent", p == b && ok, true)
	for _, id := range []api.ID{1, 0, 99} {
		p, ok = u.Parent(id)
		want(t, "Parent", p == 0 && !ok, true)
	}
	want(t, "Has", u.Has(1) && u.Has(d) && !u.Has(0) && !u.Has(99) && tree.Tree{}.Has(ident.Root), true)
	for _, x := range [][3]api.ID{{d, c, 1}, {d, b, b}, {b, d, b}, {d, d, d}, {1, d, 1}, {99, 1, 0}, {1, 99, 0}, {0, 0, 0}} {
		m, ok := u.Meet(x[0], x[1])
		want(t, "Meet", m == x[2] && ok == (x[2] != 0), true)
	}
	u.Kids(1)[0] = 99
	list(t, "new memory", u.Kids(1), a, b, c)
	list(t, "zero", tree.Tree{}.Below(1), 1)
}

// P28.3
func TestFollows(t *testing.T) {
	rnd := rand.New(rand.NewSource(2))
	u := example(t)
	for range 500 {
		l := u.Below(1)
		id, to := l[rnd.Intn(len(l))], l[rnd.Intn(len(l))]
		switch rnd.Intn(3) {
		case 0:
			fresh, _ := ident.Fresh(2, l...)
			v, e := u.Add(fresh, to)
			if e == api.OK {
				w, _, _ := v.Remove(fresh)
				list(t, "as it was", w.Below(1), l...)
				u = v
			}
		case 1:
			u, _ = u.Move(id, to)
		case 2:
			if parent, ok := u.Parent(id); ok {
				at := slices.Index(u.Kids(parent), id)
				v, _ := u.Place(id, 0)
				w, _ := v.Place(id, at)
				list(t, "there and back", w.Below(1), l...)
				u = v
			}
		}
		for _, w := range u.Below(1)[1:] {
			p, _ := u.Parent(w)
			for _, q := range u.Below(1) {
				want(t, "a kid of its parent alone", slices.Contains(u.Kids(q), w), p == q)
			}
		}
	}
}
