package layout_test

import (
	"math/rand"
	"slices"
	"testing"

	"glazier/api"
	"glazier/layout"
	"glazier/rect"
)

func rc(x, y, w, h int) api.Rect { return api.Rect{X: x, Y: y, W: w, H: h} }

func want[T comparable](t *testing.T, what string, got, wanted T) {
	t.Helper()
	if got != wanted {
		t.Errorf("%s: %v, wanted %v", what, got, wanted)
	}
}

// P52.1
func TestCheck(t *testing.T) {
	chain := make([]layout.Node, 64)
	for i := range 63 {
		chain[i].Kids = []int{i + 1}
	}
	want(t, "64 nodes", layout.Check(chain...), api.OK)
	for i, x := range []struct {
		l []layout.Node
		e api.Errno
	}{
		{nil, api.ErrEmpty}, {make([]layout.Node, 65), api.ErrMany}, {[]layout.Node{{Gap: -1, Kids: []int{5}}}, api.ErrRange}, {[]layout.Node{{W: 1001}}, api.ErrRange}, {[]layout.Node{{H: -1}}, api.ErrRange}, {[]layout.Node{{Grow: 1001}}, api.ErrRange}, {[]layout.Node{{Kids: []int{0}}}, api.ErrOrder}, {[]layout.Node{{Kids: []int{1}}}, api.ErrOrder}, {[]layout.Node{{Kids: []int{-1}}}, api.ErrOrder},
		{[]layout.Node{{Kids: []int{1, 1}}, {}}, api.ErrTwice}, {[]layout.Node{{Kids: []int{1, 2}}, {Kids: []int{2}}, {}}, api.ErrTwice}, {[]layout.Node{{Kids: []int{1, 1}}, {W: -1}}, api.ErrTwice}, {[]layout.Node{{}, {W: -1}}, api.ErrRange}, {[]layout.Node{{}, {}}, api.ErrNone}, {[]layout.Node{{Gap: 1000, W: 1000, H: 1000, Grow: 1000}}, api.OK}, {[]layout.Node{{Kids: []int{2}}, {}, {Kids: []int{1}}}, api.ErrOrder}, {[]layout.Node{{Kids: []int{2, 1}}, {}, {}}, api.OK},
	} {
		if e := layout.Check(x.l...); e != x.e {
			t.Error(i, e, x.e)
		}
		w, h := layout.Least(x.l...)
		p, e := layout.Place(rc(0, 0, 0, 0), x.l...)
		want(t, "none", x.e != api.OK && (w != 0 || h != 0 || e != x.e || len(p) > 0), false)
	}
}

// P52.1
func TestSplit(t *testing.T) {
	for _, x := range []struct {
		total       int
		least, grow []int
		parts       []int
		e           api.Errno
	}{
		{10, []int{1, 1}, []int{1, 2}, []int{3, 7}, api.OK}, {10, []int{1, 1}, []int{0, 0}, []int{1, 9}, api.OK}, {10, []int{1, 1}, []int{1, 0}, []int{9, 1}, api.OK}, {10, []int{1, 1, 1}, []int{1, 1, 1}, []int{3, 3, 4}, api.OK}, {5, nil, nil, nil, api.OK}, {10, []int{4, 2, 1}, []int{5, 0, 0}, []int{7, 2, 1}, api.OK},
		{-1, []int{1}, nil, nil, api.ErrMatch}, {-1, make([]int, 65), make([]int, 65), nil, api.ErrMany}, {-1, []int{0}, []int{0}, nil, api.ErrRange}, {1000001, []int{0}, []int{0}, nil, api.ErrRange}, {5, []int{-1}, []int{0}, nil, api.ErrRange}, {5, []int{0}, []int{1000001}, nil, api.ErrRange}, {5, []int{3, 3}, []int{0, 0}, nil, api.ErrSize}, {0, make([]int, 64), make([]int, 64), make([]int, 64), api.OK}, {1000000, []int{1000000}, []int{1000000}, []int{1000000}, api.OK},
	} {
		p, e := layout.Split(x.total, x.least, x.grow)
		want(t, "Split", e == x.e && slices.Equal(p, x.parts), true)
	}
	least := []int{3, 4}
	p, _ := layout.Split(9, least, []int{1, 1})
	p[0] = 99
	want(t, "new memory", least[0], 3)
}

// P52.1, P52.2: the chapter's example, and nodes down.
func TestPlace(t *testing.T) {
	l := []layout.Node{{Gap: 1, Kids: []int{1, 2}}, {W: 3, H: 2}, {W: 2, H: 4, Grow: 1}}
	w, h := layout.Least(l...)
	want(t, "Least", w*10+h, 64)
	p, e := layout.Place(rc(0, 0, 10, 5), l...)
	want(t, "Place", e == api.OK && slices.Equal(p, []api.Rect{rc(0, 0, 10, 5), rc(0, 0, 3, 5), rc(4, 0, 6, 5)}), true)
	l[0].Down = true
	w, h = layout.Least(l...)
	want(t, "Least", w*10+h, 37)
	p, e = layout.Place(rc(-5, 7, 3, 9), l...)
	want(t, "Place", e == api.OK && slices.Equal(p, []api.Rect{rc(-5, 7, 3, 9), rc(-5, 7, 3, 2), rc(-5, 10, 3, 6)}), true)
	own := []layout.Node{{W: 9, H: 8, Kids: []int{1}}, {W: 2, H: 3}}
	w, h = layout.Least(own...)
	want(t, "its own", w*10+h, 98)
	for _, x := range []struct {
		r api.Rect
		e api.Errno
	}{{rc(0, 0, 0, 0), api.ErrRange}, {rc(1<<20, 0, 9, 9), api.ErrRange}, {rc(-1<<20, 0, 1000001, 9), api.ErrRange}, {rc(0, 0, 8, 99), api.ErrSize}, {rc(0, 0, 99, 7), api.ErrSize}, {rc(-1<<20, 0, 1000000, 9), api.OK}, {rc(0, -1<<20, 9, 1000000), api.OK}, {rc(0, -1<<20, 9, 1000001), api.ErrRange}} {
		p, e := layout.Place(x.r, own...)
		want(t, "Place", e, x.e)
		want(t, "Place", len(p) > 0, e == api.OK)
	}
	p, e = layout.Place(rc(0, 0, 9, 8), own...)
	want(t, "just as great", e == api.OK && slices.Equal(p, []api.Rect{rc(0, 0, 9, 8), rc(0, 0, 9, 8)}), true)
	p, _ = layout.Place(rc(0, 0, 4, 4), layout.Node{Down: true, Kids: []int{1, 2}}, layout.Node{}, layout.Node{})
	want(t, "not high", slices.Equal(p, []api.Rect{rc(0, 0, 4, 4), {}, rc(0, 0, 4, 4)}), true)
	p, _ = layout.Place(rc(0, 0, 4, 4), layout.Node{Kids: []int{1, 2}}, layout.Node{Kids: []int{3}}, layout.Node{W: 4}, layout.Node{})
	want(t, "no place", slices.Equal(p, []api.Rect{rc(0, 0, 4, 4), {}, rc(0, 0, 4, 4), {}}), true)
}

// P52.3
func TestAt(t *testing.T) {
	l := []api.Rect{rc(0, 0, 9, 9), rc(2, 2, 2, 2), {}}
	want(t, "At", layout.At(0, 0, l) == 0 && layout.At(2, 3, l) == 1 && layout.At(4, 2, l) == 0 && layout.At(9, 0, l) == -1 && layout.At(0, 0, nil) == -1, true)
}

// least reckons a node's least size by the words.
func least(l []layout.Node, i int) (int, int) {
	n := l[i]
	w, h := 0, 0
	for j, k := range n.Kids {
		kw, kh := least(l, k)
		gap := n.Gap
		if j == 0 {
			gap = 0
		}
		if n.Down {
			w, h = max(w, kw), h+kh+gap
		} else {
			w, h = w+kw+gap, max(h, kh)
		}
	}
	return max(w, n.W), max(h, n.H)
}

// P52.4
func TestFollows(t *testing.T) {
	rnd := rand.New(rand.NewSource(1))
	for range 300 {
		l := []layout.Node{{}}
		for i := range l {
			l[i] = layout.Node{Down: rnd.Intn(2) == 0}
		}
		for n := 1; n < 9; n++ {
			parent := rnd.Intn(n)
			l = append(l, layout.Node{Down: rnd.Intn(2) == 0, Gap: rnd.Intn(3), W: rnd.Intn(6), H: rnd.Intn(6), Grow: rnd.Intn(3)})
			l[parent].Kids = append(l[parent].Kids, n)
		}
		w, h := layout.Least(l...)
		lw, lh := least(l, 0)
		want(t, "Least", w == lw && h == lh, true)
		p, e := layout.Place(rc(3, 4, w+1+rnd.Intn(9), h+1+rnd.Intn(9)), l...)
		want(t, "Place", e, api.OK)
		for i, n := range l {
			area := 0
			for j, k := range n.Kids {
				want(t, "in it", rect.Holds(p[i], p[k]), true)
				area += rect.Area(p[k])
				for _, m := range n.Kids[:j] {
					want(t, "apart", rect.Empty(rect.Cross(p[k], p[m])), true)
				}
				if !rect.Empty(p[k]) {
					w, h := least(l, k)
					want(t, "no smaller", p[k].W >= w && p[k].H >= h, true)
				}
			}
			if n.Gap == 0 && len(n.Kids) > 0 {
				want(t, "all of it", area, rect.Area(p[i]))
			}
		}
		for i, r := range p {
			if !rect.Empty(r) {
				at := layout.At(r.X, r.Y, p)
				want(t, "innermost", at >= i && len(l[at].Kids) == 0 || at >= i, true)
			}
		}
	}
}
