package held_test

import (
	"slices"
	"testing"

	"glazier/api"
	"glazier/held"
	"glazier/ident"
)

func want[T comparable](t *testing.T, what string, got, wanted T) {
	t.Helper()
	if got != wanted {
		t.Errorf("%s: %v, wanted %v", what, got, wanted)
	}
}

func id(client, n int) api.ID { return api.ID(client<<20 + n) }

// P11.1
func TestAddAndDrop(t *testing.T) {
	want(t, "kinds", held.Window*1000+held.Pixmap*100+held.Pen*10+held.Font, 1234)
	var z held.Table
	u, e := z.Add(1, id(1, 5), held.Pen)
	want(t, "Add", e, api.OK)
	u, e = u.Add(1, id(1, 9), held.Window)
	want(t, "Add", e, api.OK)
	for _, x := range []struct {
		client int
		id     api.ID
		kind   int
		e      api.Errno
	}{
		{2, id(1, 5), 0, api.ErrKind}, {1, id(1, 8), 5, api.ErrKind}, {2, id(1, 7), held.Pen, api.ErrOwner}, {0, ident.Root, held.Window, api.ErrOwner}, {9, id(9, 1), held.Pen, api.ErrOwner}, {1, id(1, 0), held.Pen, api.ErrOwner},
		{1, id(1, 5), held.Font, api.ErrTwice}, {2, id(2, 7), held.Pixmap, api.OK},
	} {
		v, e := u.Add(x.client, x.id, x.kind)
		want(t, "Add", e, x.e)
		want(t, "Len", v.Len(), map[bool]int{true: 3, false: 2}[e == api.OK])
	}
	want(t, "Len", u.Len()+z.Len(), 2)
	v := u.Drop(id(1, 5), id(1, 6), 0)
	want(t, "Drop", v.Len() == 1 && v.Kind(id(1, 5)) == 0 && u.Kind(id(1, 5)) == held.Pen, true)
	_, e = v.Add(1, id(1, 5), held.Font)
	want(t, "anew", e, api.OK)
}

// P11.1: how many there may be.
func TestMany(t *testing.T) {
	var u held.Table
	var e api.Errno
	for i := 1; i <= 63; i++ {
		u, e = u.Add(1+i%8, id(1+i%8, i), held.Window)
		want(t, "Add", e, api.OK)
	}
	_, e = u.Add(1, id(1, 5000), held.Window)
	want(t, "windows", e, api.ErrMany)
	for i := 64; i <= 1024; i++ {
		u, e = u.Add(1, id(1, i), held.Pen)
		want(t, "Add", e, api.OK)
	}
	_, e = u.Add(1, id(1, 2000), held.Pen)
	want(t, "all", e, api.ErrMany)
	_, e = u.Add(1, id(1, 64), held.Pen)
	want(t, "twice first", e, api.ErrTwice)
	_, e = u.Drop(id(2, 1), id(1, 64)).Add(1, id(1, 5000), held.Window)
	want(t, "room", e, api.OK)
}

// P11.2, P11.3
func TestWhose(t *testing.T) {
	var u held.Table
	for _, x := range [][3]int{{1, 5, held.Pen}, {1, 9, held.Window}, {2, 7, held.Font}, {1, 2, held.Window}, {1, 3, held.Pixmap}, {8, 1, held.Pen}} {
		u, _ = u.Add(x[0], id(x[0], x[1]), x[2])
	}
	want(t, "Of", slices.Equal(u.Of(1), []api.ID{id(1, 2), id(1, 9), id(1, 3), id(1, 5)}), true)
	want(t, "All", slices.Equal(u.All(), []api.ID{id(1, 2), id(1, 3), id(1, 5), id(1, 9), id(2, 7), id(8, 1)}), true)
	want(t, "none", len(u.Of(0))+len(u.Of(3))+len(u.Of(9)), 0)
	want(t, "Kind", u.Kind(id(2, 7)) == held.Font && u.Kind(id(2, 8)) == 0 && u.Kind(1) == 0, true)
	n := 0
	for c := 1; c <= 8; c++ {
		n += len(u.Of(c))
	}
	want(t, "together", n, u.Len())
}
