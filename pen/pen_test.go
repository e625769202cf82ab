package pen_test

import (
	"math"
	"testing"

	"glazier/api"
	"glazier/band"
	"glazier/pen"
	"glazier/region"
)

func rc(x, y, w, h int) api.Rect { return api.Rect{X: x, Y: y, W: w, H: h} }

func want[T comparable](t *testing.T, what string, got, wanted T) {
	t.Helper()
	if got != wanted {
		t.Errorf("%s: %v, wanted %v", what, got, wanted)
	}
}

// P19.1
func TestCheck(t *testing.T) {
	p := pen.New()
	want(t, "New", pen.Same(p, pen.Pen{Func: 3, Planes: 255, Fore: 0, Back: 1}) && p.Check() == api.OK, true)
	for _, x := range []struct {
		p pen.Pen
		e api.Errno
	}{
		{pen.Pen{Func: 16, X: 99999}, api.ErrKind}, {pen.Pen{Func: -1}, api.ErrKind}, {pen.Pen{X: 32768, Clip: []api.Rect{{}}}, api.ErrRange}, {pen.Pen{Y: -32769}, api.ErrRange}, {pen.Pen{Clip: make([]api.Rect, 300)}, api.ErrState},
		{pen.Pen{Clipped: true, Clip: append(make([]api.Rect, 256), rc(0, 0, -1, 0))}, api.ErrMany}, {pen.Pen{Clipped: true, Clip: []api.Rect{rc(0, 0, 65536, 0)}}, api.ErrRange}, {pen.Pen{Clipped: true, Clip: []api.Rect{rc(-32769, 0, 0, 0)}}, api.ErrRange},
		{pen.Pen{Clipped: true, Clip: []api.Rect{rc(0, 32768, 0, 0)}}, api.ErrRange}, {pen.Pen{Clipped: true, Clip: []api.Rect{rc(0, 0, 0, -1)}}, api.ErrRange}, {pen.Pen{Clip: []api.Rect{{}}}, api.ErrState}, {pen.Pen{Clipped: true, Clip: []api.Rect{rc(0, 0, 65535, 65535)}}, api.OK}, {pen.Pen{Clipped: true, Clip: []api.Rect{rc(0, 0, 0, 65536)}}, api.ErrRange}, {pen.Pen{X: -32768, Y: 32767, Clipped: true, Clip: []api.Rect{rc(32767, -32768, 65535, 0)}}, api.OK},
	} {
		want(t, "Check", x.p.Check(), x.e)
		if x.e != api.OK {
			q, e := x.p.Change(99)
			want(t, "Change", e == x.e && pen.Same(q, x.p), true)
			q, e = x.p.SetClip(99999, 0, false)
			want(t, "SetClip", e == x.e && pen.Same(q, x.p), true)
			want(t, "Region", x.p.Region(9, 9).Empty(), true)
		}
	}
}

// P19.1, P19.3
func TestChange(t *testing.T) {
	q, e := pen.New().Change(5, 6, 0, 9, 0, 0)
	want(t, "Change", e == api.OK && pen.Same(q, pen.Pen{Func: 6, Planes: 255, Fore: 9, Back: 1}), true)
	q, e = pen.New().Change(31, 15, 255, 254, 253, 1<<32-1)
	want(t, "Change", e == api.OK && pen.Same(q, pen.Pen{Func: 15, Planes: 255, Fore: 254, Back: 253, Font: 1<<32 - 1}), true)
	q, e = pen.New().Change(31, 0, 0, 0, 0, 0)
	want(t, "zeros", e == api.OK && pen.Same(q, pen.Pen{}), true)
	for _, x := range []struct {
		mask int
		n    []int64
		e    api.Errno
	}{
		{32, nil, api.ErrKind}, {-1, nil, api.ErrKind}, {0, []int64{1, 2, 3, 4}, api.ErrMatch}, {0, []int64{1, 2, 3, 4, 5, 6}, api.ErrMatch}, {3, []int64{16, 256, 0, 0, 0}, api.ErrKind}, {1, []int64{-1, 0, 0, 0, 0}, api.ErrKind},
		{2, []int64{16, 256, 0, 0, 0}, api.ErrRange}, {4, []int64{0, 0, -1, 0, 0}, api.ErrRange}, {8, []int64{0, 0, 0, 256, 0}, api.ErrRange}, {16, []int64{0, 0, 0, 0, 1 << 32}, api.ErrRange}, {16, []int64{0, 0, 0, 0, -1}, api.ErrRange}, {0, []int64{99, -1, -1, -1, -1}, api.OK},
	} {
		q, e := pen.New().Change(x.mask, x.n...)
		want(t, "Change", e, x.e)
		want(t, "as it was", pen.Same(q, pen.New()), true)
	}
	n := []int64{6, 7, 8, 9, 10}
	for a := range 32 {
		one, _ := pen.New().Change(a, n...)
		two, _ := one.Change(31&^a, n...)
		both, _ := pen.New().Change(31, n...)
		want(t, "P19.3", pen.Same(two, both), true)
	}
}

// P19.1, P19.2, P19.3
func TestClip(t *testing.T) {
	p, e := pen.New().SetClip(2, 1, true, 0, 0, 3, 2)
	want(t, "SetClip", e == api.OK && band.Same(p.Region(4, 4), band.Of(rc(2, 1, 2, 2))), true)
	q, _ := p.SetClip(0, 0, true, 0, 0, 3, 2, 9, 9, 0, 5)
	want(t, "more", region.Inside(band.Of(rc(0, 0, 3, 2)), q.Region(9, 9)), true)
	none, _ := p.SetClip(0, 0, true)
	want(t, "none", none.Region(9, 9).Empty() && len(p.Clip) == 1, true)
	off, _ := p.SetClip(5, 5, false)
	want(t, "off", band.Same(off.Region(9, 8), band.Of(rc(0, 0, 9, 8))) && !pen.Same(off, none), true)
	want(t, "planes", off.Region(math.MaxInt, 1<<20).Box() == rc(0, 0, 65535, 65535) && off.Region(0, 5).Empty() && off.Region(5, -1).Empty(), true)
	for _, x := range []struct {
		x, y    int
		clipped bool
		l       []int64
		e       api.Errno
	}{
		{32768, 0, false, []int64{1}, api.ErrRange}, {0, -32769, true, nil, api.ErrRange}, {0, 0, false, []int64{1, 2, 3, 4}, api.ErrMatch}, {0, 0, true, []int64{1, 2, 3}, api.ErrMatch}, {0, 0, true, append(make([]int64, 1024), 0, 0, -1, 0), api.ErrMany},
		{0, 0, true, []int64{0, 0, 1, 1, 0, 0, -1, 0}, api.ErrRange}, {0, 0, true, []int64{32768, 0, 1, 1}, api.ErrRange}, {0, 0, true, []int64{0, 0, 1, 65536}, api.ErrRange}, {0, 0, true, make([]int64, 1024), api.OK},
	} {
		q, e := p.SetClip(x.x, x.y, x.clipped, x.l...)
		want(t, "SetClip", e, x.e)
		want(t, "as it was", e == api.OK || pen.Same(q, p), true)
	}
	r, _ := p.Change(0, 0, 0, 0, 0, 0)
	r.Clip[0].X = 77
	want(t, "new memory", p.Clip[0].X, 0)
}

// P19.2
func TestSame(t *testing.T) {
	a := pen.Pen{1, 2, 3, 4, 5, 6, 7, true, []api.Rect{{}}}
	for _, b := range []pen.Pen{{0, 2, 3, 4, 5, 6, 7, true, a.Clip}, {1, 0, 3, 4, 5, 6, 7, true, a.Clip}, {1, 2, 0, 4, 5, 6, 7, true, a.Clip}, {1, 2, 3, 0, 5, 6, 7, true, a.Clip}, {1, 2, 3, 4, 0, 6, 7, true, a.Clip}, {1, 2, 3, 4, 5, 0, 7, true, a.Clip}, {1, 2, 3, 4, 5, 6, 0, true, a.Clip}, {1, 2, 3, 4, 5, 6, 7, false, a.Clip}, {1, 2, 3, 4, 5, 6, 7, true, nil}} {
		want(t, "Same", pen.Same(a, b), false)
	}
	want(t, "Same", pen.Same(a, a) && pen.Same(pen.Pen{}, pen.Pen{Clip: []api.Rect{}}), true)
}
