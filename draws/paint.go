package draws

import (
	"slices"

	"glazier/api"
	"glazier/arc"
	"glazier/asks"
	"glazier/band"
	"glazier/blit"
	"glazier/expose"
	"glazier/font"
	"glazier/format"
	"glazier/grid"
	"glazier/held"
	"glazier/image"
	"glazier/line"
	"glazier/paint"
	"glazier/pen"
	"glazier/poly"
	"glazier/region"
	"glazier/text"
	"glazier/world"
)

const mostArc = 4096

// target is what is drawn on: its grid, the pen, and where that draws.
type target struct {
	id    api.ID
	grid  grid.Grid
	pen   pen.Pen
	where band.Region
}

// drawable looks whether a fixed number is a drawable.
func drawable(a asks.Ask, i int) asks.Look {
	return a.Unless(api.BadDrawable, i, func() bool {
		return a.World.In.Tree.Has(a.ID(i)) || a.World.Held.Kind(a.ID(i)) == held.Pixmap
	})
}

// draw paints by a function, if all looks are so, and lays the grid. The first fields are the drawable and the pen.
func draw(a asks.Ask, looks []asks.Look, by func(t target) grid.Grid) (world.World, []api.Send) {
	looks = append([]asks.Look{drawable(a, 0), a.Granted(0), is(a, 1, held.Pen, api.BadPen)}, looks...)
	if said, bad := a.First(looks...); bad {
		return a.World, said
	}
	t := target{id: a.ID(0), pen: a.World.Pens[a.ID(1)]}
	t.grid, _ = a.World.Canvas.Grid(t.id)
	clip, _ := a.World.Canvas.Clip(a.World.In.View, a.World.Place, t.id)
	t.where = region.Meet(clip, t.pen.Region(t.grid.Size()))
	return laid(a.World, t.id, by(t)), nil
}

// points tells the points whose numbers a row is, two each.
func points(l []int64) []api.Point {
	var points []api.Point
	for ; len(l) >= 2; l = l[2:] {
		points = append(points, api.Point{X: int(l[0]), Y: int(l[1])})
	}
	return points
}

// parts looks whether the row is of so many numbers each.
func parts(a asks.Ask, each int) asks.Look {
	return a.Unless(api.BadMatch, 0, func() bool { return len(a.Request.L)%each == 0 })
}

// works looks whether what is made of the row has no error.
func works(a asks.Ask, e api.Errno) asks.Look {
	return asks.Look{Bad: api.BadValue, Value: int64(len(a.Request.L)), Wrong: func() bool { return e != api.OK }}
}

// clearArea's fields: id, x, y, w, h, expose.
func clearArea(a asks.Ask) (world.World, []api.Send) {
	if said, bad := a.First(a.Window(0), a.Granted(0), a.YesNo(5)); bad {
		return a.World, said
	}
	b, _ := a.World.Place.Box(a.ID(0))
	r := api.Rect{X: a.N(1), Y: a.N(2), W: a.N(3), H: a.N(4)}
	if r.W == 0 {
		r.W = b.W - r.X
	}
	if r.H == 0 {
		r.H = b.H - r.Y
	}
	w, places := Clear(a.World, a.ID(0), r)
	var said []api.Send
	if a.Is(5) {
		for _, o := range expose.Events(expose.Change{ID: a.ID(0), New: places}) {
			said = append(said, w.Tell(a.ID(0), api.MaskExpose, o)...)
		}
	}
	return w, said
}

// copyArea's fields: src, dst, pen, sx, sy, dx, dy, w, h, expose.
func copyArea(a asks.Ask) (world.World, []api.Send) {
	if said, bad := a.First(drawable(a, 0), a.Granted(0), drawable(a, 1), a.Granted(1), is(a, 2, held.Pen, api.BadPen), a.YesNo(9)); bad {
		return a.World, said
	}
	w, src, dst := a.World, a.ID(0), a.ID(1)
	from, _ := w.Canvas.Clip(w.In.View, w.Place, src)
	into, _ := w.Canvas.Clip(w.In.View, w.Place, dst)
	s := api.Rect{X: a.N(3), Y: a.N(4), W: a.N(7), H: a.N(8)}
	there, _ := w.Canvas.Grid(src)
	g, _ := w.Canvas.Grid(dst)
	p := w.Pens[a.ID(2)]
	var missing band.Region
	if src == dst {
		g, missing = blit.Within(g, from, into, s, a.N(5), a.N(6), p)
	} else {
		g, missing = blit.Area(there, g, from, into, s, a.N(5), a.N(6), p)
	}
	var said []api.Send
	if a.Is(9) {
		for _, o := range expose.Graphics(dst, missing) {
			said = append(said, api.Send{Client: a.Client, Out: o})
		}
	}
	return laid(w, dst, g), said
}

func drawPoints(a asks.Ask) (world.World, []api.Send) {
	return draw(a, []asks.Look{parts(a, 2)}, func(t target) grid.Grid {
		return paint.Points(t.grid, t.where, t.pen, points(a.Request.L)...)
	})
}

func drawLines(a asks.Ask) (world.World, []api.Send) {
	g, _ := a.World.Canvas.Grid(a.ID(0))
	w, h := g.Size()
	places, e := line.Path(api.Rect{W: w, H: h}, points(a.Request.L)...)
	return draw(a, []asks.Look{parts(a, 2), works(a, e)}, func(t target) grid.Grid {
		return paint.Points(t.grid, t.where, t.pen, places...)
	})
}

func fillRects(a asks.Ask) (world.World, []api.Send) {
	return draw(a, []asks.Look{parts(a, 4)}, func(t target) grid.Grid {
		return paint.Rects(t.grid, t.where, t.pen, asks.Rects(a.Request.L)...)
	})
}

func fillPoly(a asks.Ask) (world.World, []api.Send) {
	what, e := poly.Region(a.N(2), points(a.Request.L)...)
	return draw(a, []asks.Look{a.From(2, poly.EvenOdd, poly.Winding), parts(a, 2), works(a, e)}, func(t target) grid.Grid {
		return paint.Region(t.grid, t.where, what, t.pen)
	})
}

// arcs paints what of tells of each rectangle, one behind the other.
func arcs(a asks.Ask, of func(api.Rect) (band.Region, api.Errno)) (world.World, []api.Send) {
	looks := append([]asks.Look{parts(a, 4)}, sides(a.Request.L, 1, mostArc)...)
	return draw(a, looks, func(t target) grid.Grid {
		for _, r := range asks.Rects(a.Request.L) {
			what, _ := of(r)
			t.grid = paint.Region(t.grid, t.where, what, t.pen)
		}
		return t.grid
	})
}

func drawArcs(a asks.Ask) (world.World, []api.Send) { return arcs(a, arc.Ring) }

func fillArcs(a asks.Ask) (world.World, []api.Send) { return arcs(a, arc.Disc) }

// putImage's fields: dst, pen, x, y, w, h.
func putImage(a asks.Ask) (world.World, []api.Send) {
	b, e := image.Long(a.Request.B)
	fits := func() bool { return e == api.OK && len(b) == a.N(4)*a.N(5) }
	return draw(a, []asks.Look{a.Side(4), a.Side(5), a.Unless(api.BadMatch, 0, fits)}, func(t target) grid.Grid {
		i, _ := image.Unpack(a.N(4), a.N(5), b)
		return image.Put(t.grid, t.where, i, a.N(2), a.N(3), t.pen)
	})
}

// getImage's fields: src, x, y, w, h.
func getImage(a asks.Ask) (world.World, []api.Send) {
	if said, bad := a.First(drawable(a, 0), a.Granted(0), a.Side(3), a.Side(4)); bad {
		return a.World, said
	}
	g, _ := a.World.Canvas.Grid(a.ID(0))
	clip, _ := a.World.Canvas.Clip(a.World.In.View, a.World.Place, a.ID(0))
	i, _ := image.Get(g, clip, api.Rect{X: a.N(1), Y: a.N(2), W: a.N(3), H: a.N(4)}, 0)
	x := format.Fields{N: slices.Clone(a.Request.N[3:5]), B: image.Short(image.Pack(i))}
	return a.World, []api.Send{world.Reply(a.Client, a.Request.Code, x)}
}

// drawText's fields: dst, pen, x, y, opaque.
func drawText(a asks.Ask) (world.World, []api.Send) {
	id := a.World.Pens[a.ID(1)].Font
	noFont := asks.Look{Bad: api.BadFont, Value: int64(id), Wrong: func() bool { return !isOwn(a, id, held.Font) }}
	return draw(a, []asks.Look{a.YesNo(4), noFont}, func(t target) grid.Grid {
		f, _ := font.Builtin(a.World.Fonts[id])
		return text.Draw(t.grid, t.where, f, a.N(2), a.N(3), a.Request.B, a.Is(4), t.pen)
	})
}
