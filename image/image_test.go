package image_test

import (
	"math"
	"math/rand"
	"strings"
	"testing"

	"glazier/api"
	"glazier/band"
	"glazier/grid"
	"glazier/image"
	"glazier/pen"
	"glazier/rop"
	"glazier/sheet"
)

func rc(x, y, w, h int) api.Rect { return api.Rect{X: x, Y: y, W: w, H: h} }

func want[T comparable](t *testing.T, what string, got, wanted T) {
	t.Helper()
	if got != wanted {
		t.Errorf("%s: %v, wanted %v", what, got, wanted)
	}
}

func random(rnd *rand.Rand, w, h int) grid.Grid {
	g, _ := sheet.Make(w, h, func(_, _ int) api.Pixel { return api.Pixel(rnd.Intn(256)) })
	return g
}

// P25.1
func TestPack(t *testing.T) {
	g := random(rand.New(rand.NewSource(1)), 128, 128)
	u, e := image.Unpack(128, 128, image.Pack(g))
	want(t, "Unpack", e == api.OK && grid.Same(u, g), true)
	s, _ := image.Unpack(3, 2, "abcdef")
	want(t, "Pack", image.Pack(s), "abcdef")
	want(t, "At", s.At(0, 1), 'd')
	want(t, "zero", image.Pack(grid.Grid{}), "")
	for _, x := range []struct {
		w, h int
		b    string
		e    api.Errno
	}{{0, 1, "", api.ErrSize}, {1, 129, "", api.ErrSize}, {2, 2, "abc", api.ErrShort}, {3, 2, "abcde", api.ErrShort}, {2, 2, "abcde", api.ErrLong}} {
		u, e := image.Unpack(x.w, x.h, x.b)
		want(t, "Unpack", e == x.e && grid.Same(u, grid.Grid{}), true)
	}
}

// P25.2
func TestShort(t *testing.T) {
	a := func(n int) string { return strings.Repeat("a", n) }
	for _, x := range [][2]string{
		{"", ""}, {"\x07\x07\x07\x07\x01\x02", "\x81\x07\x01\x01\x02"}, {"a", "\x00a"}, {"aa", "\x01aa"}, {a(3), "\x80a"}, {a(130), "\xffa"}, {a(131), "\xffa\x00a"}, {a(133), "\xffa\x80a"},
		{"xyaab" + a(3), "\x04xyaab\x80a"}, {strings.Repeat("ab", 64), "\x7f" + strings.Repeat("ab", 64)}, {strings.Repeat("ab", 64) + "a", "\x7f" + strings.Repeat("ab", 64) + "\x00a"},
	} {
		want(t, "Short", image.Short(x[0]), x[1])
		l, e := image.Long(x[1])
		want(t, "Long", l == x[0] && e == api.OK, true)
	}
	want(t, "Short", image.Short(a(65537)), "")
	back, _ := image.Long(image.Short(a(65536)))
	want(t, "as long as may be", back, a(65536))
	small, e := image.Unpack(1, 1, "x")
	want(t, "one pixel", e == api.OK && small.At(0, 0) == 'x', true)
	l, e := image.Long("\x00\x09\x80\x05")
	want(t, "Long", l == "\x09\x05\x05\x05" && e == api.OK, true)
	whole := strings.Repeat("\xffa", 504) + "\x8da" // 504 times 130, and 16: 65536
	for _, x := range []struct {
		s string
		e api.Errno
	}{
		{strings.Repeat("\x80", 131073), api.ErrLong}, {strings.Repeat("\x00a", 65536) + "\x00", api.ErrLong}, {strings.Repeat("\x00a", 65536), api.OK}, {strings.Repeat("\x00a", 65537), api.ErrLong}, {"\x80", api.ErrShort}, {"\x01a", api.ErrShort}, {"\x00a\x05", api.ErrShort}, {whole, api.OK}, {whole + "\x00a", api.ErrLong}, {whole + "\x05a", api.ErrShort}, {"\x00a\x00a\x00a", api.OK},
	} {
		l, e := image.Long(x.s)
		want(t, "Long", e, x.e)
		want(t, "Long", l == "", e != api.OK)
	}
}

// P25.5
func TestThereAndBack(t *testing.T) {
	rnd := rand.New(rand.NewSource(3))
	for i := range 400 {
		b := make([]byte, rnd.Intn(700))
		for j := range b {
			b[j] = byte(rnd.Intn(1 + i%4))
		}
		if i%4 == 3 {
			rnd.Read(b)
		}
		s := image.Short(string(b))
		l, e := image.Long(s)
		want(t, "back", l == string(b) && e == api.OK, true)
		want(t, "length", len(s) <= len(b)+(len(b)+127)/128, true)
	}
}

// P25.3, P25.4
func TestPutAndGet(t *testing.T) {
	rnd := rand.New(rand.NewSource(4))
	clip := band.Of(rc(1, 0, 3, 9), rc(0, 2, 9, 1))
	for op := range 16 {
		g, i := random(rnd, 5, 4), random(rnd, 3, 3)
		x, y, p := rnd.Intn(8)-3, rnd.Intn(8)-3, pen.Pen{Func: op, Planes: api.Pixel(rnd.Intn(256))}
		h := image.Put(g, clip, i, x, y, p)
		r := rc(rnd.Intn(8)-3, rnd.Intn(8)-3, 1+rnd.Intn(6), 1+rnd.Intn(6))
		got, e := image.Get(g, clip, r, 77)
		want(t, "Get", e, api.OK)
		for px := -1; px < 7; px++ {
			for py := -1; py < 7; py++ {
				v := g.At(px, py)
				if px < 5 && py < 4 && px >= 0 && py >= 0 && clip.Has(px, py) && px >= x && px < x+3 && py >= y && py < y+3 {
					v = rop.Mix(op, i.At(px-x, py-y), v, p.Planes)
				}
				want(t, "Put", h.At(px, py), v)
				if px >= 0 && py >= 0 && px < r.W && py < r.H {
					v = 77
					if qx, qy := px+r.X, py+r.Y; clip.Has(qx, qy) && qx >= 0 && qx < 5 && qy >= 0 && qy < 4 {
						v = g.At(qx, qy)
					}
					want(t, "Get", got.At(px, py), v)
				}
			}
		}
	}
	g := random(rnd, 5, 4)
	for _, n := range []int{math.MaxInt, math.MinInt, 1 << 20, -1 << 20} {
		want(t, "far", grid.Same(image.Put(g, clip, g, n, 0, pen.New()), g) && grid.Same(image.Put(g, clip, g, 0, n, pen.New()), g), true)
	}
	want(t, "pen", grid.Same(image.Put(g, clip, random(rnd, 5, 4), 0, 0, pen.Pen{Func: 16, Planes: 255}), g), true)
	for _, x := range []struct {
		r api.Rect
		e api.Errno
	}{{rc(1<<21, 0, 0, 1), api.ErrSize}, {rc(0, 0, 1, 129), api.ErrSize}, {rc(1<<20+1, 0, 1, 1), api.ErrRange}, {rc(0, -1<<20-1, 1, 1), api.ErrRange}, {rc(1<<20, -1<<20, 128, 128), api.OK}} {
		h, e := image.Get(g, clip, x.r, 9)
		want(t, "Get", e, x.e)
		want(t, "Get", h.At(0, 0) == 9, e == api.OK)
	}
}
