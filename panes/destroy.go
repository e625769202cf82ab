package panes

import (
	"glazier/api"
	"glazier/asks"
	"glazier/ident"
	"glazier/route"
	"glazier/world"
)

// Destroy destroys a window, and all below it.
func Destroy(w world.World, id api.ID) (world.World, []api.Send) {
	w = asks.Copy(w)
	if id == ident.Root || !w.In.Tree.Has(id) {
		return w, nil
	}
	w, said := Map(w, id, false)
	was := w.In.View
	t, gone, _ := w.In.Tree.Remove(id)
	for _, k := range gone {
		said = append(said, structure(w, k, api.EvDestroy, int64(k))...)
	}
	w.In.Tree = t
	w.Place = w.Place.Drop(gone...)
	w.Canvas = w.Canvas.Drop(gone...)
	w.Held = w.Held.Drop(gone...)
	w.Saves = w.Saves.Drop(0, gone...)
	for _, k := range gone {
		delete(w.Props, k)
		delete(w.Over, k)
	}
	claims, refused := w.Claims.Drop(0, gone...)
	in, left := route.Leave(w.In, 0, gone...)
	w.Claims, w.In = claims, in
	w, more := w.Settle(was, nil)
	said = append(said, refused...)
	said = append(said, left...)
	return w, append(said, more...)
}
