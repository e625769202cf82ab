package passive_test

import (
	"slices"
	"testing"

	"glazier/api"
	"glazier/passive"
)

func want[T comparable](t *testing.T, what string, got, wanted T) {
	t.Helper()
	if got != wanted {
		t.Errorf("%s: %v, wanted %v", what, got, wanted)
	}
}

func add(t *testing.T, u passive.Table, g passive.Grab) passive.Table {
	t.Helper()
	u, e := u.Add(g)
	want(t, "Add", e, api.OK)
	return u
}

func button(client int, w api.ID, code, mods int) passive.Grab {
	return passive.Grab{Client: client, Window: w, Button: true, Code: code, Mods: mods}
}

// P38.1
func TestAdd(t *testing.T) {
	want(t, "constants", passive.AnyCode == 0 && passive.AnyMods == 32768, true)
	u := add(t, passive.Table{}, button(1, 7, 1, 4))
	for _, x := range []struct {
		g passive.Grab
		e api.Errno
	}{
		{button(2, 7, 0, 4), api.ErrAccess}, {button(2, 7, 1, passive.AnyMods), api.ErrAccess}, {button(2, 7, 0, 5), api.OK}, {button(2, 8, 1, 4), api.OK}, {passive.Grab{Client: 2, Window: 7, Code: 1, Mods: 4}, api.OK}, {button(1, 7, 0, passive.AnyMods), api.OK},
		{passive.Grab{}, api.ErrRange}, {passive.Grab{Client: 9}, api.ErrRange}, {passive.Grab{Client: 1, Code: -1}, api.ErrNone}, {button(1, 7, 6, -1), api.ErrRange}, {button(1, 7, -1, -1), api.ErrRange}, {passive.Grab{Client: 1, Window: 7, Code: 256, Mods: -1}, api.ErrRange}, {passive.Grab{Client: 1, Window: 7, Code: 255}, api.OK},
		{passive.Grab{Client: 1, Window: 7, Mods: -1, Mask: -1}, api.ErrValue}, {passive.Grab{Client: 1, Window: 7, Mods: 256, Mask: -1}, api.ErrValue}, {passive.Grab{Client: 1, Window: 7, Mask: -1, Pointer: 2}, api.ErrRange}, {passive.Grab{Client: 1, Window: 7, Mask: 8192}, api.ErrRange},
		{passive.Grab{Client: 1, Window: 7, Pointer: 2}, api.ErrKind}, {passive.Grab{Client: 1, Window: 7, Keyboard: -1}, api.ErrKind}, {passive.Grab{Client: 8, Window: 7, Mods: 255, Mask: 8191, Pointer: 1, Keyboard: 1}, api.OK},
	} {
		v, e := u.Add(x.g)
		want(t, "Add", e, x.e)
		want(t, "Add", len(v.All()), map[bool]int{true: 2, false: 1}[e == api.OK])
	}
	g := button(1, 7, 1, 4)
	g.Mask, g.Owner = 5, true
	v := add(t, add(t, u, button(1, 7, 2, 4)), g)
	want(t, "in its place", slices.Equal(v.All(), []passive.Grab{g, button(1, 7, 2, 4)}), true)
	v.All()[0].Mask = 99
	want(t, "new memory", v.All()[0].Mask, 5)
	for i := range 255 {
		u = add(t, u, button(1, api.ID(100+i), 1, 0))
	}
	_, e := u.Add(button(1, 99, 1, 0))
	want(t, "full", e, api.ErrFull)
	_, e = u.Add(button(1, 7, 1, 4))
	want(t, "alike", e, api.OK)
}

// P38.2
func TestDropAndLeave(t *testing.T) {
	u := passive.Table{}
	for _, g := range []passive.Grab{button(1, 7, 1, 4), button(1, 7, 1, 5), button(1, 7, 2, 4), button(1, 8, 1, 4), button(2, 7, 3, 4), {Client: 1, Window: 7, Code: 1, Mods: 4}} {
		u = add(t, u, g)
	}
	for _, x := range []struct {
		code, mods, left int
	}{{1, 4, 5}, {passive.AnyCode, 4, 4}, {1, passive.AnyMods, 4}, {passive.AnyCode, passive.AnyMods, 3}, {9, 4, 6}, {3, 4, 6}} {
		want(t, "Drop", len(u.Drop(1, 7, true, x.code, x.mods).All()), x.left)
	}
	want(t, "Drop", len(u.Drop(1, 7, false, passive.AnyCode, passive.AnyMods).All()), 5)
	want(t, "Leave", len(u.Leave(1).All())*100+len(u.Leave(0, 7).All())*10+len(u.Leave(2, 8, 99).All()), 114)
}

// P38.3, P38.4
func TestFind(t *testing.T) {
	u := add(t, add(t, passive.Table{}, button(1, 7, 1, 4)), button(2, 7, 0, 5))
	u = add(t, add(t, u, button(1, 8, 0, passive.AnyMods)), passive.Grab{Client: 3, Window: 7, Code: 200, Mods: passive.AnyMods})
	for _, x := range []struct {
		path       []api.ID
		button     bool
		code, mods int
		client     int
	}{
		{[]api.ID{7}, true, 1, 4, 1}, {[]api.ID{7}, true, 1, 5, 2}, {[]api.ID{7}, true, 1, 6, 0}, {[]api.ID{9, 7, 8}, true, 1, 5, 2}, {[]api.ID{8, 7}, true, 1, 5, 1}, {[]api.ID{7, 8}, true, 5, 6, 1}, {[]api.ID{7}, false, 200, 77, 3}, {[]api.ID{7}, false, 199, 77, 0},
		{[]api.ID{8}, true, 0, 0, 0}, {[]api.ID{8}, true, 6, 0, 0}, {[]api.ID{7}, false, 256, 0, 0}, {nil, true, 1, 4, 0},
	} {
		g, ok := u.Find(x.path, x.button, x.code, x.mods)
		want(t, "Find", g.Client == x.client && ok == (x.client != 0), true)
	}
	// Two grabs cross just if some press activates both.
	var all []passive.Grab
	for i := range 2 * 2 * 3 * 3 {
		all = append(all, passive.Grab{Client: 1, Window: api.ID(7 + i%2), Button: i/2%2 == 0, Code: i / 4 % 3, Mods: []int{0, 3, passive.AnyMods}[i/12]})
	}
	for _, a := range all {
		for _, b := range all {
			both := false
			for _, w := range []api.ID{7, 8} {
				for i := range 5 * 4 {
					_, inA := add(t, passive.Table{}, a).Find([]api.ID{w}, i >= 10, 1+i%5, i/5%2*3)
					_, inB := add(t, passive.Table{}, b).Find([]api.ID{w}, i >= 10, 1+i%5, i/5%2*3)
					both = both || inA && inB
				}
			}
			want(t, "Meet", passive.Meet(a, b), both)
		}
	}
}
