package panes

import (
	"glazier/api"
	"glazier/asks"
	"glazier/band"
	"glazier/format"
	"glazier/gravity"
	"glazier/held"
	"glazier/ident"
	"glazier/place"
	"glazier/stack"
	"glazier/world"
)

const (
	mostMask   = 31
	mostChange = 63
)

// The bits of a change's mask.
const (
	changeGround   = 1
	changeGravity  = 2
	changeBits     = 4
	changeOverride = 8
	changeStop     = 16
	changeEvents   = 32
)

func deeds() map[int]asks.Deed {
	return map[int]asks.Deed{
		api.ReqCreateWindow:    create,
		api.ReqDestroyWindow:   destroy,
		api.ReqMapWindow:       mapWindow,
		api.ReqUnmapWindow:     unmapWindow,
		api.ReqConfigureWindow: configure,
		api.ReqReparentWindow:  reparent,
		api.ReqChangeWindow:    change,
		api.ReqShapeWindow:     shapeWindow,
		api.ReqGetGeometry:     geometry,
		api.ReqQueryTree:       queryTree,
		api.ReqSaveWindow:      save,
	}
}

// Do does one of this layer's requests.
func Do(w world.World, client int, r api.Request) (world.World, []api.Send, bool) {
	return asks.Do(deeds(), w, client, r)
}

// Codes tells the codes of this layer's requests.
func Codes() []int { return asks.Codes(deeds()) }

// own are the looks at a window that isn't the root.
func own(a asks.Ask, more ...asks.Look) ([]api.Send, bool) {
	return a.First(append([]asks.Look{a.Window(0), a.Granted(0), a.NotRoot(0)}, more...)...)
}

// create's fields: id, parent, x, y, w, h, back, backing, override.
func create(a asks.Ask) (world.World, []api.Send) {
	w, id, parent := a.World, a.ID(0), a.ID(1)
	isNew := func() bool { return ident.Mine(a.Client, id) && w.Held.Kind(id) == 0 }
	isParent := a.Unless(api.BadWindow, 1, func() bool { return w.In.Tree.Has(parent) })
	h, e := w.Held.Add(a.Client, id, held.Window)
	t, f := w.In.Tree.Add(id, parent)
	room := a.Unless(api.BadAlloc, 0, func() bool { return e == api.OK && f == api.OK })
	if said, bad := a.First(a.Unless(api.BadID, 0, isNew), isParent, a.Granted(1), a.Side(4), a.Side(5), a.YesNo(7), a.YesNo(8), room); bad {
		return w, said
	}
	b := place.Box{X: a.N(2), Y: a.N(3), W: a.N(4), H: a.N(5), Grav: gravity.NorthWest, Bits: gravity.Forget}
	w.Held, w.In.Tree = h, t
	w.Place, _ = w.Place.Set(id, b)
	w.Canvas, _ = w.Canvas.Open(id, b.W, b.H, api.Pixel(a.N(6)), a.Is(7))
	if a.Is(8) {
		w.Over[id] = true
	}
	n := append([]int64{int64(id)}, a.Request.N[2:6]...)
	return w, w.Tell(parent, api.MaskKids, event(api.EvCreate, parent, append(n, a.Request.N[8])...))
}

func destroy(a asks.Ask) (world.World, []api.Send) {
	if said, bad := own(a); bad {
		return a.World, said
	}
	return Destroy(a.World, a.ID(0))
}

// redirected tells who is asked instead of it being done; 0, if nobody is.
func redirected(a asks.Ask) int {
	parent, _ := a.World.In.Tree.Parent(a.ID(0))
	if a.World.Over[a.ID(0)] {
		return 0
	}
	for _, client := range a.World.In.Choice.Who(parent, api.MaskRedirect) {
		if client != a.Client {
			return client
		}
	}
	return 0
}

// asked asks a client instead of doing it.
func asked(a asks.Ask, client, code int, more ...int64) []api.Send {
	parent, _ := a.World.In.Tree.Parent(a.ID(0))
	o := event(code, parent, append([]int64{a.Request.N[0]}, more...)...)
	return []api.Send{{Client: client, Out: o}}
}

func mapWindow(a asks.Ask) (world.World, []api.Send) {
	if said, bad := own(a); bad {
		return a.World, said
	}
	b, _ := a.World.Place.Box(a.ID(0))
	if client := redirected(a); client != 0 && !b.Mapped {
		return a.World, asked(a, client, api.EvMapRequest)
	}
	return Map(a.World, a.ID(0), true)
}

func unmapWindow(a asks.Ask) (world.World, []api.Send) {
	if said, bad := own(a); bad {
		return a.World, said
	}
	return Map(a.World, a.ID(0), false)
}

// configure's fields: id, mask, x, y, w, h, sibling, mode.
func configure(a asks.Ask) (world.World, []api.Send) {
	w, id, sibling := a.World, a.ID(0), a.ID(6)
	isSibling := func() bool {
		_, ok := stack.Order(w.In.Tree, id, sibling)
		return sibling == 0 || ok && a.Has(1, hasOrder) && sibling != id
	}
	said, bad := own(a, a.From(1, 0, mostMask), asks.If(a.Has(1, hasW), a.Side(4)), asks.If(a.Has(1, hasH), a.Side(5)),
		asks.If(a.Has(1, hasOrder), a.From(7, stack.Above, stack.Opposite)), a.Unless(api.BadMatch, 6, isSibling))
	if bad {
		return w, said
	}
	if client := redirected(a); client != 0 {
		return w, asked(a, client, api.EvConfigureRequest, a.Request.N[1:]...)
	}
	r := api.Rect{X: a.N(2), Y: a.N(3), W: a.N(4), H: a.N(5)}
	done, said, e := Configure(w, id, a.N(1), r, sibling, a.N(7))
	if e != api.OK {
		return a.Refuse(api.BadMatch, int64(id))
	}
	return done, said
}

// reparent's fields: id, parent, x, y.
func reparent(a asks.Ask) (world.World, []api.Send) {
	if said, bad := own(a, a.Window(1), a.GrantedAs(1, api.ReqCreateWindow)); bad {
		return a.World, said
	}
	w, said, e := Reparent(a.World, a.ID(0), a.ID(1), a.N(2), a.N(3))
	if e != api.OK {
		return a.Refuse(api.BadMatch, a.Request.N[1])
	}
	return w, said
}

// change's fields: id, mask, back, gravity, bits, override, stop, events.
func change(a asks.Ask) (world.World, []api.Send) {
	rule := a.Request.Code
	if a.N(1) == changeEvents {
		rule = 0
	}
	mayChoose := func() bool {
		_, e := a.World.In.Choice.Set(a.Client, a.ID(0), a.N(7))
		return e == api.OK
	}
	with := func(bit, i, most int) asks.Look { return asks.If(a.Has(1, bit), a.From(i, 0, most)) }
	said, bad := a.First(a.Window(0), a.From(1, 0, mostChange), a.GrantedAs(0, rule), with(changeGravity, 3, gravity.Static), with(changeBits, 4, gravity.Static),
		with(changeOverride, 5, 1), with(changeStop, 6, api.MaskAll), with(changeEvents, 7, api.MaskAll),
		asks.If(a.Has(1, changeEvents), a.Unless(api.BadAccess, 0, mayChoose)))
	if bad {
		return a.World, said
	}
	return changed(a)
}

// changed changes what the mask names.
func changed(a asks.Ask) (world.World, []api.Send) {
	w, id := a.World, a.ID(0)
	var said []api.Send
	if a.Has(1, changeGround) {
		w.Canvas, _ = w.Canvas.Back(id, api.Pixel(a.N(2)))
		w, said = w.Settle(w.In.View, nil)
	}
	b, _ := w.Place.Box(id)
	if a.Has(1, changeGravity) {
		b.Grav = a.N(3)
	}
	if a.Has(1, changeBits) {
		b.Bits = a.N(4)
	}
	w.Place, _ = w.Place.Set(id, b)
	if a.Has(1, changeOverride) {
		delete(w.Over, id)
		if a.Is(5) {
			w.Over[id] = true
		}
	}
	if a.Has(1, changeStop) {
		w.In.Choice, _ = w.In.Choice.Stop(id, a.N(6))
	}
	if a.Has(1, changeEvents) {
		w.In.Choice, _ = w.In.Choice.Set(a.Client, id, a.N(7))
	}
	return w, said
}

// rectLooks look at a row that is rectangles, or is empty, if there may be none.
func rectLooks(a asks.Ask, may bool) []asks.Look {
	l := a.Request.L
	looks := []asks.Look{
		a.Unless(api.BadMatch, 0, func() bool { return len(l)%4 == 0 && (may || len(l) == 0) }),
		{Bad: api.BadValue, Value: int64(len(l)), Wrong: func() bool { return len(l)/4 > api.MaxRects }},
	}
	for i := 0; i+4 <= len(l); i += 4 {
		for _, n := range l[i+2 : i+4] {
			looks = append(looks, asks.Look{Bad: api.BadValue, Value: n, Wrong: func() bool { return n < 0 }})
		}
	}
	return looks
}

func shapeWindow(a asks.Ask) (world.World, []api.Send) {
	if said, bad := own(a, append([]asks.Look{a.YesNo(1)}, rectLooks(a, a.Is(1))...)...); bad {
		return a.World, said
	}
	w, was := a.World, a.World.In.View
	b, _ := w.Place.Box(a.ID(0))
	b.Shaped, b.Shape = a.Is(1), band.Of(asks.Rects(a.Request.L)...)
	w.Place, _ = w.Place.Set(a.ID(0), b)
	return w.Settle(was, nil)
}

func geometry(a asks.Ask) (world.World, []api.Send) {
	if said, bad := a.First(a.Window(0)); bad {
		return a.World, said
	}
	w := a.World
	parent, _ := w.In.Tree.Parent(a.ID(0))
	b, _ := w.Place.Box(a.ID(0))
	n := []int64{int64(parent), int64(b.X), int64(b.Y), int64(b.W), int64(b.H), number(b.Mapped), number(w.In.View.Viewable(a.ID(0)))}
	return w, []api.Send{world.Reply(a.Client, a.Request.Code, format.Fields{N: n})}
}

func queryTree(a asks.Ask) (world.World, []api.Send) {
	if said, bad := a.First(a.Window(0)); bad {
		return a.World, said
	}
	parent, _ := a.World.In.Tree.Parent(a.ID(0))
	x := format.Fields{N: []int64{int64(parent)}}
	for _, k := range a.World.In.Tree.Kids(a.ID(0)) {
		x.L = append(x.L, int64(k))
	}
	return a.World, []api.Send{world.Reply(a.Client, a.Request.Code, x)}
}

func save(a asks.Ask) (world.World, []api.Send) {
	if said, bad := own(a, a.YesNo(1)); bad {
		return a.World, said
	}
	s, e := a.World.Saves.Change(a.Client, a.ID(0), a.Is(1))
	if e != api.OK {
		return a.Refuse(api.BadMatch, a.Request.N[0])
	}
	a.World.Saves = s
	return a.World, nil
}
