// Package sheet gathers new pixels of a grid, so that many of them are laid by few calls.
package sheet

import (
	"glazier/api"
	"glazier/band"
	"glazier/grid"
)

const pixels = 256

// Sheet has new pixels, by rows, each kind of pixel by itself.
type Sheet struct {
	runs [pixels][]api.Rect
}

// Put says that the place has that pixel.
func (s *Sheet) Put(x, y int, p api.Pixel) {
	l := s.runs[p]
	if n := len(l); n > 0 && l[n-1].Y == y && l[n-1].X+l[n-1].W == x {
		l[n-1].W++
		return
	}
	s.runs[p] = append(l, api.Rect{X: x, Y: y, W: 1, H: 1})
}

// On tells the grid with all new pixels that it has places for. No place may have been told twice.
func (s *Sheet) On(g grid.Grid) grid.Grid {
	for p, l := range s.runs {
		if len(l) > 0 {
			g = g.Fill(band.Of(l...), api.Pixel(p))
		}
	}
	return g
}

// Change tells the grid in which each place of the region that it has is what its pixel becomes.
func Change(g grid.Grid, places band.Region, become func(x, y int, old api.Pixel) api.Pixel) grid.Grid {
	var s Sheet
	w, h := g.Size()
	for _, r := range places.Rects() {
		for y := max(r.Y, 0); y < min(r.Y+r.H, h); y++ {
			for x := max(r.X, 0); x < min(r.X+r.W, w); x++ {
				old := g.At(x, y)
				if p := become(x, y, old); p != old {
					s.Put(x, y, p)
				}
			}
		}
	}
	return s.On(g)
}

// Make tells the grid of that size with these pixels.
func Make(w, h int, at func(x, y int) api.Pixel) (grid.Grid, api.Errno) {
	g, e := grid.New(w, h, 0)
	if e != api.OK {
		return grid.Grid{}, e
	}
	all := band.Of(api.Rect{W: w, H: h})
	return Change(g, all, func(x, y int, _ api.Pixel) api.Pixel { return at(x, y) }), api.OK
}
