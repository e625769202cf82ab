package choice_test

import (
	"slices"
	"testing"

	"glazier/api"
	"glazier/choice"
)

func want[T comparable](t *testing.T, what string, got, wanted T) {
	t.Helper()
	if got != wanted {
		t.Errorf("%s: %v, wanted %v", what, got, wanted)
	}
}

func set(t *testing.T, c choice.Choice, client int, id api.ID, mask int) choice.Choice {
	t.Helper()
	c, e := c.Set(client, id, mask)
	want(t, "Set", e, api.OK)
	return c
}

const a, b, d = api.ID(5), api.ID(6), api.ID(7)

// P35.1, P35.2, P35.4
func TestSet(t *testing.T) {
	c := set(t, choice.Choice{}, 1, a, 5)
	for _, x := range []struct {
		client int
		id     api.ID
		mask   int
		e      api.Errno
	}{
		{0, 0, -1, api.ErrRange}, {9, 0, -1, api.ErrRange}, {2, 0, -1, api.ErrNone}, {2, a, -1, api.ErrValue}, {2, a, 8192, api.ErrValue}, {2, a, 4, api.ErrAccess}, {2, a, 8191, api.ErrAccess}, {2, a, 8191 &^ 4, api.OK}, {2, b, 8191, api.OK}, {1, a, 4, api.OK}, {1, a, 0, api.OK},
	} {
		e, err := c.Set(x.client, x.id, x.mask)
		want(t, "Set", err, x.e)
		if err == api.OK {
			want(t, "Mask", e.Mask(x.client, x.id), x.mask)
		} else {
			want(t, "as it was", e.Mask(1, a) == 5 && e.Mask(2, a) == 0, true)
		}
	}
	r := set(t, c, 1, b, api.MaskRedirect)
	_, e := r.Set(2, b, api.MaskRedirect)
	want(t, "redirect", e, api.ErrAccess)
	r = set(t, r, 2, b, api.MaskButtonPress)
	r = set(t, r, 2, a, 3)
	want(t, "Who", slices.Equal(r.Who(a, 1), []int{1, 2}) && slices.Equal(r.Who(a, 4), []int{1}) && len(r.Who(a, 8)) == 0 && slices.Equal(r.Who(a, 8192+2), []int{2}) && slices.Equal(r.Who(a, -1), []int{1, 2}), true)
	want(t, "Mask", c.Mask(1, a) == 5 && c.Mask(2, a) == 0 && c.Mask(-1, a) == 0 && c.Mask(1, 99) == 0, true)
	eight := set(t, set(t, r, 8, a, 64), 8, d, 4)
	_, e = eight.Set(1, d, 4)
	want(t, "client 8's", e, api.ErrAccess)
	want(t, "Who", slices.Equal(eight.Who(a, 64), []int{8}), true)
	r = r.Drop(1, b)
	want(t, "Drop", r.Mask(1, a) == 0 && r.Mask(2, a) == 3 && r.Mask(2, b) == 0, true)
}

// P35.1, P35.3, P35.4
func TestFind(t *testing.T) {
	c := set(t, set(t, choice.Choice{}, 1, a, 5), 2, a, 1)
	for _, x := range []struct {
		path []api.ID
		mask int
		id   api.ID
		l    []int
	}{{[]api.ID{b, a}, 4, a, []int{1}}, {[]api.ID{b, a}, 1, a, []int{1, 2}}, {[]api.ID{b, a, d}, 1, a, []int{1, 2}}, {[]api.ID{b}, 4, 0, nil}, {nil, 4, 0, nil}, {[]api.ID{a}, 8, 0, nil}, {[]api.ID{a}, 8192 + 4, a, []int{1}}} {
		id, l := c.Find(x.path, x.mask)
		want(t, "Find", id == x.id && slices.Equal(l, x.l), true)
	}
	s, e := c.Stop(b, 4)
	want(t, "Stop", e == api.OK && s.Stopped(b) == 4 && c.Stopped(b) == 0, true)
	id, l := s.Find([]api.ID{b, a}, 4)
	want(t, "stopped", id == 0 && len(l) == 0, true)
	id, _ = s.Find([]api.ID{b, a}, 1)
	want(t, "goes on", id, a)
	s, _ = s.Stop(a, 4)
	id, _ = s.Find([]api.ID{a}, 4)
	want(t, "found where it stops", id, a)
	for _, x := range []struct {
		id   api.ID
		mask int
		e    api.Errno
	}{{0, -1, api.ErrNone}, {b, -1, api.ErrValue}, {b, 8192, api.ErrValue}, {b, 8191, api.OK}} {
		u, e := s.Stop(x.id, x.mask)
		want(t, "Stop", e, x.e)
		want(t, "Stop", u.Stopped(b) == 4, e != api.OK)
	}
	want(t, "Drop", s.Drop(0, b).Stopped(b) == 0 && s.Drop(0, b).Stopped(a) == 4, true)
}
