package cross

import (
	"slices"
	"testing"

	"glazier/api"
	"glazier/tree"
)

func want[T comparable](t *testing.T, what string, got, wanted T) {
	t.Helper()
	if got != wanted {
		t.Errorf("%s: %v, wanted %v", what, got, wanted)
	}
}

// a and b on the root, c in a, d in c.
const a, b, c, d = api.ID(1<<20 + 1), api.ID(1<<20 + 2), api.ID(1<<20 + 3), api.ID(1<<20 + 4)

func example() tree.Tree {
	t, _ := tree.New().Add(a, 1)
	t, _ = t.Add(b, 1)
	t, _ = t.Add(c, a)
	t, _ = t.Add(d, c)
	return t
}

// P36.1
func TestPath(t *testing.T) {
	u := example()
	for _, x := range []struct {
		from, to api.ID
		l        []Step
	}{
		{c, b, []Step{{c, false, Nonlinear}, {a, false, NonlinearVirtual}, {b, true, Nonlinear}}},
		{c, c, nil}, {1, 1, nil}, {0, 99, nil},
		{1, d, []Step{{1, false, Inferior}, {a, true, Virtual}, {c, true, Virtual}, {d, true, Ancestor}}},
		{c, d, []Step{{c, false, Inferior}, {d, true, Ancestor}}},
		{d, a, []Step{{d, false, Ancestor}, {c, false, Virtual}, {a, true, Inferior}}},
		{d, 1, []Step{{d, false, Ancestor}, {c, false, Virtual}, {a, false, Virtual}, {1, true, Inferior}}},
		{b, d, []Step{{b, false, Nonlinear}, {a, true, NonlinearVirtual}, {c, true, NonlinearVirtual}, {d, true, Nonlinear}}},
		{0, c, []Step{{1, true, NonlinearVirtual}, {a, true, NonlinearVirtual}, {c, true, Nonlinear}}},
		{c, 99, []Step{{c, false, Nonlinear}, {a, false, NonlinearVirtual}, {1, false, NonlinearVirtual}}},
		{99, 1, []Step{{1, true, Nonlinear}}}, {1, 0, []Step{{1, false, Nonlinear}}},
	} {
		if l := Path(u, x.from, x.to); !slices.Equal(l, x.l) {
			t.Errorf("%d to %d: %v", x.from, x.to, l)
		}
	}
	for i, n := range []string{"ancestor", "virtual", "inferior", "nonlinear", "nonlinear-virtual", ""} {
		want(t, "Name", Name(i), n)
	}
	want(t, "Name", Name(-1), "")
}

// P36.1, P36.2
func TestBack(t *testing.T) {
	u := example()
	want(t, "none", len(Back(nil)), 0)
	ids := []api.ID{0, 1, a, b, c, d, 99}
	for _, from := range ids {
		for _, to := range ids {
			l := Path(u, from, to)
			want(t, "the way back", slices.Equal(Back(l), Path(u, to, from)), true)
			in, seen := map[api.ID]bool{}, map[api.ID]bool{}
			for _, w := range u.Path(from) {
				in[w] = true
			}
			for _, s := range l {
				want(t, "once", seen[s.ID], false)
				seen[s.ID] = true
				if s.Detail != Inferior {
					want(t, "in or out", in[s.ID], !s.Enter)
					in[s.ID] = s.Enter
				}
			}
			for _, w := range u.Below(1) {
				want(t, "in at last", in[w], slices.Contains(u.Path(to), w))
			}
		}
	}
}
