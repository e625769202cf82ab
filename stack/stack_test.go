package stack_test

import (
	"math/rand"
	"slices"
	"testing"

	"glazier/api"
	"glazier/stack"
	"glazier/tree"
)

func rc(x, y, w, h int) api.Rect { return api.Rect{X: x, Y: y, W: w, H: h} }

func want[T comparable](t *testing.T, what string, got, wanted T) {
	t.Helper()
	if got != wanted {
		t.Errorf("%s: %v, wanted %v", what, got, wanted)
	}
}

const a, b, c, d = api.ID(1<<20 + 1), api.ID(1<<20 + 2), api.ID(1<<20 + 3), api.ID(1<<20 + 4)

func example() (tree.Tree, map[api.ID]api.Rect) {
	t, _ := tree.New().Add(a, 1)
	t, _ = t.Add(b, 1)
	t, _ = t.Add(c, 1)
	t, _ = t.Add(d, b)
	return t, map[api.ID]api.Rect{a: rc(0, 0, 4, 4), b: rc(9, 9, 4, 4), c: rc(3, 3, 4, 4), d: rc(0, 0, 9, 9)}
}

// P29.1
func TestRestack(t *testing.T) {
	u, at := example()
	for _, x := range []struct {
		id, sibling api.ID
		mode        int
		kids        []api.ID
	}{
		{a, 0, stack.TopIf, []api.ID{b, c, a}}, {b, 0, stack.TopIf, nil}, {a, 0, stack.Opposite, []api.ID{b, c, a}}, {c, 0, stack.Opposite, []api.ID{c, a, b}}, {a, 0, stack.Above, []api.ID{b, c, a}}, {c, 0, stack.Above, nil}, {a, b, stack.Above, []api.ID{b, a, c}}, {c, a, stack.Above, []api.ID{a, c, b}}, {b, a, stack.Above, nil},
		{c, 0, stack.Below, []api.ID{c, a, b}}, {a, 0, stack.Below, nil}, {c, b, stack.Below, []api.ID{a, c, b}}, {a, c, stack.Below, []api.ID{b, a, c}}, {a, b, stack.Below, nil}, {a, c, stack.TopIf, []api.ID{b, c, a}}, {a, b, stack.TopIf, nil}, {c, a, stack.TopIf, nil},
		{c, 0, stack.BottomIf, []api.ID{c, a, b}}, {c, a, stack.BottomIf, []api.ID{c, a, b}}, {c, b, stack.BottomIf, nil}, {a, 0, stack.BottomIf, nil}, {b, 0, stack.Opposite, nil}, {a, c, stack.Opposite, []api.ID{b, c, a}}, {c, a, stack.Opposite, []api.ID{c, a, b}}, {c, b, stack.Opposite, nil}, {d, 0, stack.Opposite, nil},
	} {
		v, other, e := stack.Restack(u, x.id, x.sibling, x.mode, at)
		kids := x.kids
		if kids == nil {
			kids = u.Kids(1)
		}
		want(t, "Restack", e == api.OK && other == (x.kids != nil) && slices.Equal(v.Kids(1), kids) && slices.Equal(v.Kids(b), u.Kids(b)), true)
	}
	for _, x := range []struct {
		id, sibling api.ID
		mode        int
		e           api.Errno
	}{{1, 99, 9, api.ErrRoot}, {99, 98, 9, api.ErrNone}, {a, 99, 5, api.ErrKind}, {a, 99, -1, api.ErrKind}, {a, 99, 0, api.ErrMatch}, {a, a, 0, api.ErrMatch}, {a, d, 0, api.ErrMatch}, {d, a, 0, api.ErrMatch}} {
		v, other, e := stack.Restack(u, x.id, x.sibling, x.mode, at)
		want(t, "Restack", e == x.e && !other && slices.Equal(v.Below(1), u.Below(1)), true)
	}
}

// P29.1
func TestHides(t *testing.T) {
	u, at := example()
	for _, x := range []struct {
		a, b api.ID
		ok   bool
	}{{c, a, true}, {a, c, false}, {c, b, false}, {c, c, false}, {d, a, false}, {c, d, false}, {99, a, false}, {1, a, false}} {
		want(t, "Hides", stack.Hides(u, x.a, x.b, at), x.ok)
	}
	want(t, "not there", stack.Hides(u, c, a, map[api.ID]api.Rect{c: at[c]}) || stack.Hides(u, c, a, map[api.ID]api.Rect{c: rc(0, 0, 0, 9), a: at[a]}) || stack.Hides(u, c, a, nil), false)
}

// P29.2
func TestCirculateAndOrder(t *testing.T) {
	u, at := example()
	v, id, ok := stack.Circulate(u, 1, true, at)
	want(t, "up", id == a && ok && slices.Equal(v.Kids(1), []api.ID{b, c, a}), true)
	v, id, ok = stack.Circulate(u, 1, false, at)
	want(t, "down", id == c && ok && slices.Equal(v.Kids(1), []api.ID{c, a, b}), true)
	apart, _ := u.Place(b, 2)
	v, id, ok = stack.Circulate(apart, 1, false, at)
	want(t, "the highest that hides", id == c && ok && slices.Equal(v.Kids(1), []api.ID{c, a, b}), true)
	for _, parent := range []api.ID{b, d, 99} {
		v, id, ok = stack.Circulate(u, parent, true, at)
		want(t, "none", id == 0 && !ok && slices.Equal(v.Below(1), u.Below(1)), true)
	}
	at[b] = rc(0, 0, 9, 9)
	_, id, _ = stack.Circulate(u, 1, true, at)
	_, down, _ := stack.Circulate(u, 1, false, at)
	want(t, "lowest, highest", id == a && down == c, true)
	for _, x := range []struct {
		a, b api.ID
		n    int
		ok   bool
	}{{c, a, 1, true}, {a, c, -1, true}, {a, a, 0, true}, {1, 1, 0, true}, {a, d, 0, false}, {d, a, 0, false}, {1, a, 0, false}, {99, 99, 0, false}, {a, 99, 0, false}} {
		n, ok := stack.Order(u, x.a, x.b)
		want(t, "Order", n == x.n && ok == x.ok, true)
	}
}

// P29.3
func TestFollows(t *testing.T) {
	rnd := rand.New(rand.NewSource(3))
	u, _ := example()
	for i := api.ID(5); i < 10; i++ {
		u, _ = u.Add(1<<20+i, 1)
	}
	for range 500 {
		at := map[api.ID]api.Rect{}
		for _, k := range u.Kids(1) {
			at[k] = rc(rnd.Intn(9), rnd.Intn(9), 1+rnd.Intn(4), 1+rnd.Intn(4))
		}
		kids := u.Kids(1)
		id, sibling, mode := kids[rnd.Intn(len(kids))], api.ID(0), rnd.Intn(5)
		if s := kids[rnd.Intn(len(kids))]; rnd.Intn(2) == 0 && s != id {
			sibling = s
		}
		v, other, _ := stack.Restack(u, id, sibling, mode, at)
		but := func(l []api.ID) []api.ID { return slices.DeleteFunc(l, func(k api.ID) bool { return k == id }) }
		want(t, "the others", slices.Equal(but(u.Kids(1)), but(v.Kids(1))), true)
		want(t, "another order", other, !slices.Equal(u.Kids(1), v.Kids(1)))
		if mode == stack.Above || mode == stack.Below {
			_, other, _ = stack.Restack(v, id, sibling, mode, at)
			want(t, "twice", other, false)
		}
		for _, k := range kids {
			if sibling == 0 && (mode == stack.TopIf && stack.Hides(v, k, id, at) || mode == stack.BottomIf && stack.Hides(v, id, k, at)) {
				t.Error("hides still")
			}
		}
		u = v
	}
}
