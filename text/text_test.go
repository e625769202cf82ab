package text_test

import (
	"math"
	"strconv"
	"strings"
	"testing"

	"glazier/api"
	"glazier/band"
	"glazier/font"
	"glazier/grid"
	"glazier/pen"
	"glazier/region"
	"glazier/rop"
	"glazier/text"
)

func rc(x, y, w, h int) api.Rect { return api.Rect{X: x, Y: y, W: w, H: h} }

const m = api.MaxCoord

func want[T comparable](t *testing.T, what string, got, wanted T) {
	t.Helper()
	if got != wanted {
		t.Errorf("%s: %v, wanted %v", what, got, wanted)
	}
}

func tiny() font.Font {
	f, _ := font.Builtin("tiny")
	return f
}

// P27.1
func TestRegionAndBox(t *testing.T) {
	r := text.Region(tiny(), 0, 5, "A")
	want(t, "A", band.Same(r, band.Of(rc(0, 0, 2, 1), rc(0, 1, 1, 1), rc(2, 1, 1, 1), rc(0, 2, 3, 1), rc(0, 3, 1, 1), rc(0, 4, 2, 1))), true)
	want(t, "Box", text.Box(tiny(), 0, 5, "A"), rc(0, 0, 4, 6))
	for _, n := range []int{m + 1, -m - 1, math.MaxInt, math.MinInt} {
		want(t, "wrong", text.Region(tiny(), n, 0, "A").Empty() && text.Region(tiny(), 0, n, "A").Empty() && text.Box(tiny(), n, 0, "A") == api.Rect{} && text.Box(tiny(), 0, n, "A") == api.Rect{}, true)
	}
	want(t, "Box", text.Box(tiny(), m-3, 5, "A") == api.Rect{} && text.Box(tiny(), m-4, 5, "A") == rc(m-4, 0, 4, 6) && text.Box(tiny(), 0, 5, "") == api.Rect{} && text.Box(font.Font{}, 0, 5, "A") == api.Rect{} && text.Box(tiny(), 0, -m, "A") == api.Rect{}, true)
	want(t, "at the other edge", !text.Region(tiny(), -m, m, "A").Empty() && text.Box(tiny(), -m, 0, "A").W == 4, true)
	want(t, "at the edge", text.Region(tiny(), m-1, 5, "A").Box(), rc(m-1, 0, 1, 5))
	long := strings.Repeat("A", 5000)
	want(t, "long", text.Box(tiny(), 0, 5, long).W == 4*4096 && text.Region(tiny(), 0, 5, long).Area() == 4096*10 && text.At(tiny(), long, 1<<40) == 4096 && text.Fit(tiny(), long, 1<<40) == 4096, true)
}

// P27.2
func TestDraw(t *testing.T) {
	g, _ := grid.New(9, 7, 4)
	p := pen.Pen{Func: rop.Xor, Planes: 7, Fore: 1, Back: 2, Clipped: true}
	clip := band.Of(rc(0, 0, 6, 9))
	for _, opaque := range []bool{false, true} {
		h := text.Draw(g, clip, tiny(), 1, 6, "AB", opaque, p)
		ink, box := text.Region(tiny(), 1, 6, "AB"), band.Of(text.Box(tiny(), 1, 6, "AB"))
		for x := range 9 {
			for y := range 7 {
				v := api.Pixel(4)
				switch {
				case !clip.Has(x, y):
				case ink.Has(x, y):
					v = 5
				case opaque && box.Has(x, y):
					v = 6
				}
				want(t, "Draw", h.At(x, y), v)
			}
		}
	}
	want(t, "wrong", grid.Same(text.Draw(g, clip, tiny(), m+1, 0, "A", true, p), g) && grid.Same(text.Draw(g, clip, font.Font{}, 1, 1, "A", true, p), g), true)
}

// P27.3
func TestAtAndFit(t *testing.T) {
	f, _ := font.Builtin("wide") // A is 6, B 7, C 8 wide
	for _, x := range [][3]int{{-1, 0, 0}, {0, 0, 0}, {5, 0, 0}, {6, 1, 1}, {12, 1, 1}, {13, 2, 2}, {20, 2, 2}, {21, 3, 3}, {math.MaxInt, 3, 3}, {math.MinInt, 0, 0}} {
		want(t, "At", text.At(f, "ABC", x[0]), x[1])
		want(t, "Fit", text.Fit(f, "ABC", x[0]), x[2])
	}
	want(t, "examples", text.At(tiny(), "AB", 5)*10+text.Fit(tiny(), "AB", 7), 11)
	narrow := "font 1 0\n"
	for c := 32; c <= 126; c++ {
		narrow += strconv.Itoa(c) + " " + strconv.Itoa(c%2) + " 0\n"
	}
	n, _, e := font.Parse(narrow) // every second letter has no column
	want(t, "no columns", e == api.OK && text.At(n, "BBABB", 0) == 2 && text.Fit(n, "BBABB", 0) == 2 && text.At(n, "BBABB", 1) == 5 && text.Fit(n, "BBABB", 1) == 5 && text.At(n, "BB", -1) == 0 && text.Fit(n, "BB", -1) == 0, true)
	want(t, "none", text.At(f, "", 5)+text.Fit(f, "", 5)+text.Fit(f, "A", 5), 0)
}

// P27.4
func TestFollows(t *testing.T) {
	for i := range 9 {
		s := "Glazier!\x00"
		a, b := s[:i], s[i:]
		whole := text.Region(tiny(), 3, 4, s)
		want(t, "parts", band.Same(whole, region.Union(text.Region(tiny(), 3, 4, a), text.Region(tiny(), 3+tiny().Width(a), 4, b))), true)
		want(t, "in the box", region.Inside(whole, band.Of(text.Box(tiny(), 3, 4, s))), true)
		want(t, "moved", band.Same(text.Region(tiny(), 3+i, 4-i, s), region.Shift(whole, i, -i)), true)
	}
}
