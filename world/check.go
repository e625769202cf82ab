package world

import (
	"slices"

	"glazier/api"
	"glazier/band"
	"glazier/freeze"
	"glazier/held"
	"glazier/ident"
	"glazier/view"
)

// Check tells the numbers of the rules that don't hold, rising.
func (w World) Check() []int {
	var broken []int
	for i, holds := range []func() bool{w.heldWindows, w.haveGrids, w.showGround, w.isViewed, w.haveOwners, w.areThere, w.pointsRight, w.focusShows} {
		if !holds() {
			broken = append(broken, i+1)
		}
	}
	return broken
}

// ofKind tells all that is held as that kind.
func (w World) ofKind(kind int) []api.ID {
	return slices.DeleteFunc(w.Held.All(), func(id api.ID) bool { return w.Held.Kind(id) != kind })
}

// heldWindows: the tree's windows but the root are held as windows, and no others.
func (w World) heldWindows() bool {
	ids := w.In.Tree.Below(ident.Root)[1:]
	slices.Sort(ids)
	return slices.Equal(ids, w.ofKind(held.Window))
}

// haveGrids: windows have a place, and a grid of its size; pixmaps have a grid.
func (w World) haveGrids() bool {
	for _, id := range w.In.Tree.Below(ident.Root) {
		b, ok := w.Place.Box(id)
		g, has := w.Canvas.Grid(id)
		gw, gh := g.Size()
		if !ok || !has || gw != b.W || gh != b.H {
			return false
		}
	}
	for _, id := range w.ofKind(held.Pixmap) {
		if _, ok := w.Canvas.Grid(id); !ok {
			return false
		}
	}
	return true
}

// showGround: what has no backing has its ground where it doesn't show.
func (w World) showGround() bool {
	for _, id := range w.In.Tree.Below(ident.Root) {
		ground, backing, ok := w.Canvas.Ground(id)
		if !ok || backing {
			continue
		}
		g, _ := w.Canvas.Grid(id)
		shows := w.In.View.Visible(id)
		gw, gh := g.Size()
		for y := range gh {
			for x := range gw {
				if g.At(x, y) != ground && !shows.Has(x, y) {
					return false
				}
			}
		}
	}
	return true
}

// isViewed: the view is that of the tree and the places.
func (w World) isViewed() bool {
	v := view.Of(w.In.Tree, w.Place)
	if !slices.Equal(v.Windows(), w.In.View.Windows()) {
		return false
	}
	for _, id := range v.Windows() {
		if !band.Same(v.Visible(id), w.In.View.Visible(id)) {
			return false
		}
	}
	return true
}

// haveOwners: what is kept of windows, pens and fonts is of some that there are.
func (w World) haveOwners() bool {
	for id := range w.Props {
		if !w.In.Tree.Has(id) {
			return false
		}
	}
	for id := range w.Over {
		if !w.In.Tree.Has(id) {
			return false
		}
	}
	return sameIDs(w.Pens, w.ofKind(held.Pen)) && sameIDs(w.Fonts, w.ofKind(held.Font))
}

// sameIDs tells whether a map has just these keys.
func sameIDs[V any](m map[api.ID]V, ids []api.ID) bool {
	for _, id := range ids {
		if _, ok := m[id]; !ok {
			return false
		}
	}
	return len(m) == len(ids)
}

// areThere: whoever has anything is among the clients.
func (w World) areThere() bool {
	var who []int
	for _, id := range w.Held.All() {
		client, _ := ident.Client(id)
		who = append(who, client)
	}
	for _, id := range w.In.Tree.Below(ident.Root) {
		who = append(who, w.In.Choice.Who(id, api.MaskAll)...)
	}
	for _, g := range w.In.Passive.All() {
		who = append(who, g.Client)
	}
	for _, d := range []freeze.Device{w.In.Pointer, w.In.Keyboard} {
		if a, ok := d.Active(); ok {
			who = append(who, a.Client)
		}
	}
	for a := api.Atom(1); a <= api.MaxAtoms; a++ {
		if c, ok := w.Claims.Owner(a); ok {
			who = append(who, c.Client)
		}
	}
	if w.Closed != 0 {
		who = append(who, w.Closed)
	}
	return !slices.ContainsFunc(who, func(client int) bool { return !w.Clients[client] })
}

// pointsRight: the pointer is inside the screen, over the window there.
func (w World) pointsRight() bool {
	id, ok := w.In.View.At(w.In.X, w.In.Y)
	return ok && id == w.In.Under
}

// focusShows: the focus is nowhere, or on a viewable window.
func (w World) focusShows() bool {
	return w.In.Focus.Window == 0 || w.In.View.Viewable(w.In.Focus.Window)
}
