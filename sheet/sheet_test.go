package sheet_test

import (
	"testing"

	"glazier/api"
	"glazier/band"
	"glazier/grid"
	"glazier/sheet"
)

func TestSheet(t *testing.T) {
	g, e := sheet.Make(5, 4, func(x, y int) api.Pixel { return api.Pixel(x*y*40 + x) })
	if e != api.OK {
		t.Fatal(e)
	}
	h := sheet.Change(g, band.Of(api.Rect{X: -2, Y: 1, W: 5, H: 99}), func(x, y int, old api.Pixel) api.Pixel {
		if old != g.At(x, y) {
			t.Error("old", x, y)
		}
		return old + api.Pixel(y)
	})
	for x := range 5 {
		for y := range 4 {
			p := api.Pixel(x*y*40 + x)
			if g.At(x, y) != p {
				t.Error("Make", x, y)
			}
			if x < 3 && y > 0 {
				p += api.Pixel(y)
			}
			if h.At(x, y) != p {
				t.Error("Change", x, y)
			}
		}
	}
	if _, e := sheet.Make(0, 4, nil); e != api.ErrSize {
		t.Error(e)
	}
	if z := sheet.Change(grid.Grid{}, band.Of(api.Rect{W: 9, H: 9}), nil); !grid.Same(z, grid.Grid{}) {
		t.Error("zero grid")
	}
}
