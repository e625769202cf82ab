package focus_test

import (
	"slices"
	"testing"

	"glazier/api"
	"glazier/cross"
	"glazier/focus"
	"glazier/place"
	"glazier/tree"
	"glazier/view"
)

func want[T comparable](t *testing.T, what string, got, wanted T) {
	t.Helper()
	if got != wanted {
		t.Errorf("%s: %v, wanted %v", what, got, wanted)
	}
}

// a on the root, b in a, c on the root.
const a, b, c = api.ID(1<<20 + 1), api.ID(1<<20 + 2), api.ID(1<<20 + 3)

// look tells a tree and its view, in which these windows are mapped.
func look(mapped ...api.ID) (tree.Tree, view.View) {
	t, _ := tree.New().Add(a, 1)
	t, _ = t.Add(b, a)
	t, _ = t.Add(c, 1)
	p, _ := place.New(9, 9)
	for _, id := range []api.ID{a, b, c} {
		p, _ = p.Set(id, place.Box{W: 4, H: 4, Mapped: slices.Contains(mapped, id)})
	}
	return t, view.Of(t, p)
}

// P37.1
func TestSet(t *testing.T) {
	_, v := look(a, b)
	f := focus.Focus{1, focus.ToRoot, 10}
	for _, x := range []struct {
		id        api.ID
		revert    int
		time, now uint32
		g         focus.Focus
		ok        bool
		e         api.Errno
	}{
		{99, 3, 5, 20, f, false, api.ErrKind}, {99, -1, 5, 20, f, false, api.ErrKind}, {99, 0, 5, 20, f, false, api.ErrNone}, {c, 0, 5, 20, f, false, api.ErrNone}, {b, 2, 9, 20, f, false, api.OK}, {b, 2, 21, 20, f, false, api.OK},
		{b, 2, 10, 20, focus.Focus{b, 2, 10}, true, api.OK}, {b, 2, 20, 20, focus.Focus{b, 2, 20}, true, api.OK}, {0, 0, 0, 20, focus.Focus{0, 0, 20}, true, api.OK}, {1, 1, 0, 3, focus.Focus{1, 1, 3}, true, api.OK},
	} {
		g, ok, e := f.Set(v, x.id, x.revert, x.time, x.now)
		want(t, "Set", g, x.g)
		want(t, "Set", ok == x.ok && e == x.e, true)
	}
}

// P37.2, P37.4
func TestLost(t *testing.T) {
	for _, x := range []struct {
		mapped []api.ID
		f, g   focus.Focus
	}{
		{[]api.ID{a, b}, focus.Focus{b, 2, 7}, focus.Focus{b, 2, 7}}, {[]api.ID{a}, focus.Focus{b, 2, 7}, focus.Focus{a, 0, 7}}, {nil, focus.Focus{b, 2, 7}, focus.Focus{1, 0, 7}}, {[]api.ID{b}, focus.Focus{b, 2, 7}, focus.Focus{1, 0, 7}}, {nil, focus.Focus{99, 2, 7}, focus.Focus{1, 0, 7}},
		{nil, focus.Focus{b, 1, 7}, focus.Focus{1, 1, 7}}, {nil, focus.Focus{b, 0, 7}, focus.Focus{0, 0, 7}}, {nil, focus.Focus{b, 5, 7}, focus.Focus{0, 0, 7}}, {nil, focus.Focus{0, 5, 7}, focus.Focus{0, 5, 7}}, {nil, focus.Focus{1, 2, 7}, focus.Focus{1, 2, 7}},
	} {
		u, v := look(x.mapped...)
		g, lost := x.f.Lost(u, v)
		want(t, "Lost", g, x.g)
		want(t, "Lost", lost, x.f != x.g)
		_, again := g.Lost(u, v)
		want(t, "isn't lost", again, false)
	}
}

// P37.2, P37.4
func TestWay(t *testing.T) {
	u, _ := look()
	for _, x := range []struct {
		focus, under api.ID
		way          []api.ID
	}{{a, b, []api.ID{b, a}}, {a, 1, []api.ID{a}}, {a, c, []api.ID{a}}, {a, 0, []api.ID{a}}, {1, b, []api.ID{b, a, 1}}, {1, 0, []api.ID{1}}, {1, 99, []api.ID{1}}, {0, b, nil}, {99, b, nil}, {b, a, []api.ID{b}}} {
		want(t, "Way", slices.Equal(focus.Focus{Window: x.focus}.Way(u, x.under), x.way), true)
	}
}

// P37.3
func TestSteps(t *testing.T) {
	u, _ := look()
	for _, x := range [][2]api.ID{{b, c}, {1, b}, {b, 1}} {
		want(t, "Steps", slices.Equal(focus.Steps(u, x[0], x[1]), cross.Path(u, x[0], x[1])), true)
	}
	for _, x := range [][2]api.ID{{b, b}, {0, 0}, {0, 99}, {98, 99}} {
		want(t, "none", len(focus.Steps(u, x[0], x[1])), 0)
	}
	want(t, "in", slices.Equal(focus.Steps(u, 0, b), []cross.Step{{ID: b, Enter: true, Detail: cross.Nonlinear}}), true)
	want(t, "out", slices.Equal(focus.Steps(u, b, 99), []cross.Step{{ID: b, Enter: false, Detail: cross.Nonlinear}}), true)
}
