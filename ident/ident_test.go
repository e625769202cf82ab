package ident_test

import (
	"testing"

	"glazier/api"
	"glazier/ident"
)

func want[T comparable](t *testing.T, what string, got, wanted T) {
	t.Helper()
	if got != wanted {
		t.Errorf("%s: %v, wanted %v", what, got, wanted)
	}
}

// P7.1
func TestWhose(t *testing.T) {
	for _, c := range []int{-1, 0, 9} {
		b, ok := ident.Base(c)
		want(t, "Base", b == 0 && !ok, true)
		want(t, "Mine", ident.Mine(c, ident.Root) || ident.Mine(c, 0) || ident.Mine(c, api.ID(c)<<20+1), false)
	}
	b, ok := ident.Base(2)
	want(t, "Base", b == 2097152 && ok, true)
	for _, x := range []struct {
		id     api.ID
		client int
		ok     bool
		e      api.Errno
	}{
		{0, 0, false, api.ErrNone}, {1, 0, true, api.OK}, {2, 0, false, api.ErrRange}, {1 << 20, 0, false, api.ErrRange}, {1<<20 + 1, 1, true, api.OK}, {1<<21 - 1, 1, true, api.OK},
		{2097154, 2, true, api.OK}, {2097152, 0, false, api.ErrRange}, {9<<20 - 1, 8, true, api.OK}, {9 << 20, 0, false, api.ErrRange}, {9<<20 + 1, 0, false, api.ErrRange}, {1<<32 - 1, 0, false, api.ErrRange},
	} {
		c, ok := ident.Client(x.id)
		want(t, "Client", c == x.client && ok == x.ok, true)
		want(t, "Check", ident.Check(x.id), x.e)
		// P7.3: one client's alone.
		for c := 0; c < 11; c++ {
			want(t, "Mine", ident.Mine(c, x.id), x.ok && x.id != ident.Root && c == x.client)
		}
	}
}

// P7.2, P7.3
func TestFresh(t *testing.T) {
	id, ok := ident.Fresh(2, 2097153, 2097155, 2097153, 1, 77, 1<<20+1)
	want(t, "Fresh", id == 2097154 && ok, true)
	id, ok = ident.Fresh(2)
	want(t, "Fresh", id == 2097153 && ok, true)
	for _, c := range []int{0, 9, -3} {
		id, ok = ident.Fresh(c)
		want(t, "Fresh", id == 0 && !ok, true)
	}
	var used []api.ID
	for i := api.ID(1); i < 1<<20; i++ {
		used = append(used, 3<<20+i)
	}
	last := used[len(used)-1]
	id, ok = ident.Fresh(3, used[:len(used)-1]...)
	want(t, "the last one", id == last && ok, true)
	id, ok = ident.Fresh(3, used...)
	want(t, "all used", id == 0 && !ok, true)
}
