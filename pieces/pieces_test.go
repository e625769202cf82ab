package pieces_test

import (
	"slices"
	"testing"

	"glazier/api"
	"glazier/pieces"
)

func want[T comparable](t *testing.T, what string, got, wanted T) {
	t.Helper()
	if got != wanted {
		t.Errorf("%s: %v, wanted %v", what, got, wanted)
	}
}

func numbers(n int) []int64 {
	l := make([]int64, n)
	for i := range l {
		l[i] = int64(i) * 65537 % (1 << 32)
	}
	return l
}

// P42.1, P42.3
func TestGive(t *testing.T) {
	g, e := pieces.NewGive([]int64{1, 2, 3}, 2)
	want(t, "NewGive", e, api.OK)
	for _, row := range [][]int64{{1, 3}, {2, 0, 1, 2}, {2, 0, 3}, {3, 0}} {
		p, ok := g.Put()
		want(t, "Put", ok && slices.Equal(pieces.Code(p), row) && !g.Done(), true)
		g = g.Gone()
	}
	p, ok := g.Put()
	want(t, "done", g.Done() && g.Gone().Done() && !ok && pieces.Code(p) == nil || len(p.Data) == 0, true)
	g, _ = pieces.NewGive([]int64{7, 8}, 2)
	p, _ = g.Put()
	want(t, "whole", slices.Equal(pieces.Code(p), []int64{0, 2, 7, 8}) && g.Gone().Done(), true)
	g, _ = pieces.NewGive(nil, 1)
	p, ok = g.Put()
	want(t, "empty", ok && slices.Equal(pieces.Code(p), []int64{0, 0}), true)
	_, ok = pieces.Give{}.Put()
	want(t, "zero", pieces.Give{}.Done() && !ok, true)
	for _, x := range []struct {
		l    []int64
		most int
		e    api.Errno
	}{{[]int64{-1}, 0, api.ErrSize}, {nil, 16383, api.ErrSize}, {append(numbers(65536), -1), 1, api.ErrLong}, {[]int64{-1}, 1, api.ErrRange}, {[]int64{1 << 32}, 1, api.ErrRange}, {append(numbers(65535), 1<<32-1), 16382, api.OK}} {
		g, e := pieces.NewGive(x.l, x.most)
		want(t, "NewGive", e, x.e)
		want(t, "NewGive", g.Done(), e != api.OK)
	}
	in := []int64{5}
	g, _ = pieces.NewGive(in, 1)
	in[0] = 6
	p, _ = g.Put()
	p.Data[0] = 7
	p, _ = g.Put()
	want(t, "new memory", p.Data[0], 5)
}

// P42.2
func TestTake(t *testing.T) {
	var z pieces.Take
	w, a, d, n := pieces.Piece{Total: 1, Data: []int64{5}, Last: true}, pieces.Piece{Incr: true, Total: 2}, pieces.Piece{Incr: true, Data: []int64{5}}, pieces.Piece{Incr: true, Last: true}
	got := func(k pieces.Take, l ...pieces.Piece) (pieces.Take, api.Errno) {
		var e api.Errno
		for _, p := range l {
			k, e = k.Got(p)
		}
		return k, e
	}
	for _, x := range []struct {
		l     []pieces.Piece
		e     api.Errno
		data  []int64
		state int
	}{
		{[]pieces.Piece{w}, api.OK, []int64{5}, 2}, {[]pieces.Piece{a}, api.OK, nil, 1}, {[]pieces.Piece{a, d}, api.OK, []int64{5}, 1}, {[]pieces.Piece{a, d, d, n}, api.OK, []int64{5, 5}, 2}, {[]pieces.Piece{d}, api.ErrOrder, nil, 0}, {[]pieces.Piece{n}, api.ErrOrder, nil, 0}, {[]pieces.Piece{a, a}, api.ErrOrder, nil, 1}, {[]pieces.Piece{a, w}, api.ErrOrder, nil, 1},
		{[]pieces.Piece{a, d, d, d}, api.ErrLong, []int64{5, 5}, 1}, {[]pieces.Piece{a, d, n}, api.ErrShort, []int64{5}, 1}, {[]pieces.Piece{w, w}, api.ErrState, []int64{5}, 2}, {[]pieces.Piece{w, {}}, api.ErrForm, []int64{5}, 2}, {[]pieces.Piece{{}}, api.ErrForm, nil, 0},
	} {
		k, e := got(z, x.l...)
		data, state := k.Data()
		want(t, "Got", e == x.e && slices.Equal(data, x.data) && state == x.state, true)
		r := k.Refused()
		data, state = r.Data()
		want(t, "Refused", state == 3 && len(data) == 0 || state == 2 && x.state == 2, true)
		_, e = r.Got(a)
		want(t, "refused", e, api.ErrState)
	}
}

// P42.2, P42.3: what is right.
func TestRight(t *testing.T) {
	for _, x := range []struct {
		p   pieces.Piece
		row []int64
	}{
		{pieces.Piece{Last: true}, []int64{0, 0}}, {pieces.Piece{Total: 16382, Data: numbers(16382), Last: true}, append([]int64{0, 16382}, numbers(16382)...)}, {pieces.Piece{Total: 16383, Data: numbers(16383), Last: true}, nil}, {pieces.Piece{Total: 1, Last: true}, nil}, {pieces.Piece{Total: 1, Data: []int64{-1}, Last: true}, nil},
		{pieces.Piece{Incr: true, Total: 65536}, []int64{1, 65536}}, {pieces.Piece{Incr: true, Total: 1}, []int64{1, 1}}, {pieces.Piece{Incr: true, Total: 65537}, nil}, {pieces.Piece{Incr: true, Total: 1, Data: []int64{1}}, nil}, {pieces.Piece{Incr: true}, nil}, {pieces.Piece{Incr: true, Total: -1}, nil},
		{pieces.Piece{Incr: true, Data: numbers(16382)}, append([]int64{2, 0}, numbers(16382)...)}, {pieces.Piece{Incr: true, Data: numbers(16383)}, nil}, {pieces.Piece{Incr: true, Data: []int64{1 << 32}}, nil}, {pieces.Piece{Incr: true, Last: true}, []int64{3, 0}}, {pieces.Piece{Incr: true, Last: true, Total: 1}, nil}, {pieces.Piece{Incr: true, Last: true, Data: []int64{1}}, nil}, {pieces.Piece{}, nil},
	} {
		want(t, "Code", slices.Equal(pieces.Code(x.p), x.row), true)
		_, e := pieces.Take{}.Got(x.p)
		want(t, "Got", e == api.ErrForm, x.row == nil)
		if x.row != nil {
			p, e := pieces.Read(x.row)
			want(t, "Read", e == api.OK && p.Incr == x.p.Incr && p.Last == x.p.Last && p.Total == x.p.Total && slices.Equal(p.Data, x.p.Data), true)
		}
	}
	for _, x := range []struct {
		l []int64
		e api.Errno
	}{{nil, api.ErrShort}, {[]int64{9}, api.ErrShort}, {[]int64{4, 0}, api.ErrKind}, {[]int64{-1, 0}, api.ErrKind}, {[]int64{0, 1}, api.ErrForm}, {[]int64{1, 3, 5}, api.ErrForm}, {[]int64{2, 0}, api.ErrForm}, {[]int64{2, 0, -5}, api.ErrForm}, {[]int64{3, 1}, api.ErrForm}, {[]int64{1, 0}, api.ErrForm}} {
		p, e := pieces.Read(x.l)
		want(t, "Read", e == x.e && pieces.Code(p) == nil, true)
	}
}

// P42.4
func TestThereAndBack(t *testing.T) {
	for _, x := range [][2]int{{0, 1}, {1, 1}, {5, 2}, {6, 2}, {65536, 16382}, {300, 299}} {
		g, _ := pieces.NewGive(numbers(x[0]), x[1])
		var k pieces.Take
		for !g.Done() {
			_, state := k.Data()
			want(t, "not ahead", state < 2, true)
			p, _ := g.Put()
			read, e := pieces.Read(pieces.Code(p))
			want(t, "Read", e, api.OK)
			k, e = k.Got(read)
			want(t, "Got", e, api.OK)
			g = g.Gone()
		}
		data, state := k.Data()
		want(t, "done", state == 2 && slices.Equal(data, numbers(x[0])), true)
	}
}
