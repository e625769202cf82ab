package prop_test

import (
	"slices"
	"testing"

	"glazier/api"
	"glazier/prop"
)

func want[T comparable](t *testing.T, what string, got, wanted T) {
	t.Helper()
	if got != wanted {
		t.Errorf("%s: %v, wanted %v", what, got, wanted)
	}
}

func change(t *testing.T, l prop.List, mode int, p prop.Prop) prop.List {
	t.Helper()
	l, e := l.Change(mode, p)
	want(t, "Change", e, api.OK)
	return l
}

func data(l prop.List, name api.Atom) []int64 {
	p, _ := l.Find(name)
	return p.Data
}

// P10.1
func TestChange(t *testing.T) {
	var l prop.List
	in := []int64{1, 2}
	l = change(t, l, prop.Replace, prop.Prop{5, 4, 8, in})
	in[0] = 9
	m := change(t, l, prop.Prepend, prop.Prop{5, 4, 8, []int64{0}})
	m = change(t, m, prop.Append, prop.Prop{5, 4, 8, []int64{3}})
	want(t, "data", slices.Equal(data(m, 5), []int64{0, 1, 2, 3}) && slices.Equal(data(l, 5), []int64{1, 2}), true)
	m = change(t, m, prop.Append, prop.Prop{6, 4, 32, []int64{1<<32 - 1}})
	m = change(t, m, prop.Replace, prop.Prop{5, 7, 16, []int64{65535}})
	p, _ := m.Find(5)
	want(t, "replaced", p.Type == 7 && p.Format == 16 && len(p.Data) == 1, true)
	big := make([]int64, 16385)
	for _, x := range []struct {
		mode int
		p    prop.Prop
		e    api.Errno
	}{
		{3, prop.Prop{}, api.ErrKind}, {-1, prop.Prop{}, api.ErrKind}, {0, prop.Prop{0, 0, 9, big}, api.ErrName}, {0, prop.Prop{5, 0, 9, big}, api.ErrValue}, {0, prop.Prop{5, 4, 9, big}, api.ErrSize}, {0, prop.Prop{5, 4, 8, append(big[1:], 256)}, api.ErrLong}, {0, prop.Prop{5, 4, 8, big}, api.ErrLong},
		{0, prop.Prop{5, 4, 8, []int64{256}}, api.ErrRange}, {0, prop.Prop{5, 4, 16, []int64{65536}}, api.ErrRange}, {0, prop.Prop{5, 4, 32, []int64{-1}}, api.ErrRange}, {0, prop.Prop{5, 4, 32, []int64{1 << 32}}, api.ErrRange},
		{1, prop.Prop{5, 4, 16, nil}, api.ErrMatch}, {2, prop.Prop{5, 7, 8, big[:16384]}, api.ErrMatch}, {2, prop.Prop{5, 7, 16, big[:16384]}, api.ErrLong}, {2, prop.Prop{5, 7, 16, big[:16383]}, api.OK},
	} {
		n, e := m.Change(x.mode, x.p)
		want(t, "Change", e, x.e)
		want(t, "as it was", e == api.OK || slices.Equal(data(n, 5), []int64{65535}), true)
	}
}

// P10.1: how many there may be.
func TestFull(t *testing.T) {
	var l prop.List
	for i := api.Atom(64); i > 0; i-- {
		l = change(t, l, prop.Append, prop.Prop{i, 4, 8, nil})
	}
	_, e := l.Change(prop.Replace, prop.Prop{65, 4, 8, nil})
	want(t, "full", e, api.ErrFull)
	l = change(t, l, prop.Replace, prop.Prop{64, 5, 8, nil})
	want(t, "Names", len(l.Names()) == 64 && slices.IsSorted(l.Names()), true)
}

// P10.2, P10.4
func TestGet(t *testing.T) {
	l := change(t, prop.List{}, prop.Replace, prop.Prop{5, 4, 8, []int64{0, 1, 2, 3}})
	l = change(t, l, prop.Replace, prop.Prop{6, 4, 8, nil})
	for _, x := range []struct {
		name, kind     api.Atom
		offset, length int
		remove         bool
		f              prop.Found
		ok             bool
		e              api.Errno
		gone           bool
	}{
		{9, 0, -1, 0, true, prop.Found{}, false, api.ErrRange, false}, {9, 0, 0, -1, true, prop.Found{}, false, api.ErrRange, false}, {9, 0, 7, 7, true, prop.Found{}, false, api.OK, false},
		{5, 7, 99, 1, true, prop.Found{4, 8, 4, nil}, true, api.OK, false}, {5, 0, 5, 1, true, prop.Found{}, false, api.ErrValue, false}, {5, 4, 1, 2, true, prop.Found{4, 8, 1, []int64{1, 2}}, true, api.OK, false},
		{5, 4, 2, 1 << 62, true, prop.Found{4, 8, 0, []int64{2, 3}}, true, api.OK, true}, {5, 0, 4, 0, true, prop.Found{4, 8, 0, nil}, true, api.OK, true}, {5, 0, 4, 9, false, prop.Found{4, 8, 0, nil}, true, api.OK, false},
	} {
		m, f, ok, e := l.Get(x.name, x.kind, x.offset, x.length, x.remove)
		want(t, "Get", ok == x.ok && e == x.e && f.Type == x.f.Type && f.Format == x.f.Format && f.Left == x.f.Left && slices.Equal(f.Data, x.f.Data), true)
		_, there := m.Find(5)
		want(t, "gone", !there, x.gone)
		_, there = m.Find(6)
		want(t, "other", there, true)
	}
	var all []int64
	for offset := 0; ; {
		m, f, _, _ := l.Get(5, 0, offset, 3, true)
		all = append(all, f.Data...)
		offset += len(f.Data)
		if f.Left == 0 {
			_, there := m.Find(5)
			want(t, "gone", there, false)
			break
		}
	}
	want(t, "whole", slices.Equal(all, []int64{0, 1, 2, 3}), true)
}

// P10.3
func TestFindAndDelete(t *testing.T) {
	l := change(t, change(t, prop.List{}, 0, prop.Prop{9, 4, 8, []int64{1}}), 0, prop.Prop{3, 4, 8, []int64{2}})
	want(t, "Names", slices.Equal(l.Names(), []api.Atom{3, 9}), true)
	data(l, 9)[0] = 7
	want(t, "new memory", data(l, 9)[0], 1)
	m, ok := l.Delete(9)
	want(t, "Delete", ok && slices.Equal(m.Names(), []api.Atom{3}) && len(l.Names()) == 2, true)
	_, ok = m.Delete(9)
	want(t, "Delete", ok, false)
	p, ok := m.Find(9)
	want(t, "Find", p.Name == 0 && p.Data == nil && !ok, true)
}
