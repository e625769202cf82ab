package cross_test

import (
	"slices"
	"testing"

	"glazier/api"
	"glazier/cross"
	"glazier/tree"
)

func want[T comparable](t *testing.T, what string, got, wanted T) {
	t.Helper()
	if got != wanted {
		t.Errorf("%s: %v, wanted %v", what, got, wanted)
	}
}

// a and b on the root, c in a, d in c.
const a, b, c, d = api.ID(1<<20 + 1), api.ID(1<<20 + 2), api.ID(1<<20 + 3), api.ID(1<<20 + 4)

func example() tree.Tree {
	t, _ := tree.New().Add(a, 1)
	t, _ = t.Add(b, 1)
	t, _ = t.Add(c, a)
	t, _ = t.Add(d, c)
	return t
}

// P36.1
func TestPath(t *testing.T) {
	u := example()
	for _, x := range []struct {
		from, to api.ID
		l        []cross.Step
	}{
		{c, b, []cross.Step{{c, false, cross.Nonlinear}, {a, false, cross.NonlinearVirtual}, {b, true, cross.Nonlinear}}},
		{c, c, nil}, {1, 1, nil}, {0, 99, nil},
		{1, d, []cross.Step{{1, false, cross.Inferior}, {a, true, cross.Virtual}, {c, true, cross.Virtual}, {d, true, cross.Ancestor}}},
		{c, d, []cross.Step{{c, false, cross.Inferior}, {d, true, cross.Ancestor}}},
		{d, a, []cross.Step{{d, false, cross.Ancestor}, {c, false, cross.Virtual}, {a, true, cross.Inferior}}},
		{d, 1, []cross.Step{{d, false, cross.Ancestor}, {c, false, cross.Virtual}, {a, false, cross.Virtual}, {1, true, cross.Inferior}}},
		{b, d, []cross.Step{{b, false, cross.Nonlinear}, {a, true, cross.NonlinearVirtual}, {c, true, cross.NonlinearVirtual}, {d, true, cross.Nonlinear}}},
		{0, c, []cross.Step{{1, true, cross.NonlinearVirtual}, {a, true, cross.NonlinearVirtual}, {c, true, cross.Nonlinear}}},
		{c, 99, []cross.Step{{c, false, cross.Nonlinear}, {a, false, cross.NonlinearVirtual}, {1, false, cross.NonlinearVirtual}}},
		{99, 1, []cross.Step{{1, true, cross.Nonlinear}}}, {1, 0, []cross.Step{{1, false, cross.Nonlinear}}},
	} {
		if l := cross.Path(u, x.from, x.to); !slices.Equal(l, x.l) {
			t.Errorf("%d to %d: %v", x.from, x.to, l)
		}
	}
	for i, n := range []string{"ancestor", "virtual", "inferior", "nonlinear", "nonlinear-virtual", ""} {
		want(t, "Name", cross.Name(i), n)
	}
	want(t, "Name", cross.Name(-1), "")
}

// P36.1, P36.2
func TestBack(t *testing.T) {
	u := example()
	want(t, "none", len(cross.Back(nil)), 0)
	ids := []api.ID{0, 1, a, b, c, d, 99}
	for _, from := range ids {
		for _, to := range ids {
			l := cross.Path(u, from, to)
			want(t, "the way back", slices.Equal(cross.Back(l), cross.Path(u, to, from)), true)
			in, seen := map[api.ID]bool{}, map[api.ID]bool{}
			for _, w := range u.Path(from) {
				in[w] = true
			}
			for _, s := range l {
				want(t, "once", seen[s.ID], false)
				seen[s.ID] = true
				if s.Detail != cross.Inferior {
					want(t, "in or out", in[s.ID], !s.Enter)
					in[s.ID] = s.Enter
				}
			}
			for _, w := range u.Below(1) {
				want(t, "in at last", in[w], slices.Contains(u.Path(to), w))
			}
		}
	}
}
