// Package asks has what all requests have in common: what is looked at, and the first fault.
package asks

import (
	"maps"
	"slices"

	"glazier/api"
	"glazier/copies"
	"glazier/ident"
	"glazier/pack"
	"glazier/world"
)

// Ask is a request of a client, in a world.
type Ask struct {
	World   world.World
	Client  int
	Request api.Request
}

// Look is what is looked at: the fault, and its value, if it is wrong.
type Look struct {
	Bad   int
	Value int64
	Wrong func() bool
}

// Deed does a request that is right; the world's maps are its own.
type Deed func(a Ask) (world.World, []api.Send)

// Copy tells the world with maps of its own, none nil.
func Copy(w world.World) world.World {
	w.Props, w.Pens, w.Fonts = copies.Map(w.Props), copies.Pens(w.Pens), copies.Map(w.Fonts)
	w.Over, w.Clients = copies.Map(w.Over), copies.Map(w.Clients)
	return w
}

// Do does a request by its code; false of a code that none of the deeds has.
func Do(deeds map[int]Deed, w world.World, client int, r api.Request) (world.World, []api.Send, bool) {
	w = Copy(w)
	deed, ok := deeds[r.Code]
	if !ok {
		return w, nil, false
	}
	if pack.Check(r) != api.OK {
		return w, []api.Send{world.Fault(client, api.BadLength, r.Code, 0)}, true
	}
	done, said := deed(Ask{w, client, r})
	return done, said, true
}

// Codes tells the codes of the deeds, rising.
func Codes(deeds map[int]Deed) []int { return slices.Sorted(maps.Keys(deeds)) }

// N tells a fixed number.
func (a Ask) N(i int) int { return int(a.Request.N[i]) }

// ID tells a fixed number as an id.
func (a Ask) ID(i int) api.ID { return api.ID(a.Request.N[i]) }

// Atom tells a fixed number as an atom.
func (a Ask) Atom(i int) api.Atom { return api.Atom(a.Request.N[i]) }

// Is tells whether a fixed number says yes.
func (a Ask) Is(i int) bool { return a.Request.N[i] == 1 }

// Has tells whether the mask that is a fixed number has that bit.
func (a Ask) Has(i, bit int) bool { return a.N(i)&bit != 0 }

// Refuse tells the world as it is, and a fault.
func (a Ask) Refuse(bad int, value int64) (world.World, []api.Send) {
	return a.World, []api.Send{world.Fault(a.Client, bad, a.Request.Code, value)}
}

// First tells the fault of the first look that is wrong.
func (a Ask) First(looks ...Look) ([]api.Send, bool) {
	for _, l := range looks {
		if l.Wrong() {
			_, said := a.Refuse(l.Bad, l.Value)
			return said, true
		}
	}
	return nil, false
}

// Unless tells a look at a fixed number, that it is so.
func (a Ask) Unless(bad, i int, so func() bool) Look {
	return Look{bad, a.Request.N[i], func() bool { return !so() }}
}

// Window looks whether a fixed number is a window of the tree.
func (a Ask) Window(i int) Look {
	return a.Unless(api.BadWindow, i, func() bool { return a.World.In.Tree.Has(a.ID(i)) })
}

// GrantedAs looks whether the client may ask what that code asks of the id.
func (a Ask) GrantedAs(i, code int) Look {
	return a.Unless(api.BadAccess, i, func() bool { return a.World.May(a.Client, code, a.ID(i)) })
}

// Granted looks whether the client may ask this of the id.
func (a Ask) Granted(i int) Look { return a.GrantedAs(i, a.Request.Code) }

// NotRoot looks whether a fixed number is another window than the root.
func (a Ask) NotRoot(i int) Look {
	return a.Unless(api.BadMatch, i, func() bool { return a.ID(i) != ident.Root })
}

// From looks whether a fixed number is from least to most.
func (a Ask) From(i, least, most int) Look {
	return a.Unless(api.BadValue, i, func() bool { return least <= a.N(i) && a.N(i) <= most })
}

// YesNo looks whether a fixed number says yes or no.
func (a Ask) YesNo(i int) Look { return a.From(i, 0, 1) }

// Side looks whether a fixed number may be a width, or a height.
func (a Ask) Side(i int) Look { return a.From(i, 1, api.MaxSide) }

// If looks only if that is so.
func If(so bool, l Look) Look {
	return Look{l.Bad, l.Value, func() bool { return so && l.Wrong() }}
}

// Rects tells the rectangles whose numbers a row is, four each.
func Rects(l []int64) []api.Rect {
	var rects []api.Rect
	for ; len(l) >= 4; l = l[4:] {
		rects = append(rects, api.Rect{X: int(l[0]), Y: int(l[1]), W: int(l[2]), H: int(l[3])})
	}
	return rects
}
