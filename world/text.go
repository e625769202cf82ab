package world

import (
	"maps"
	"slices"
	"strconv"
	"strings"

	"glazier/api"
	"glazier/freeze"
	"glazier/grid"
	"glazier/held"
	"glazier/ident"
	"glazier/image"
)

const (
	markTimes  = 31
	markModulo = 1000003
)

// page gathers lines.
type page struct{ strings.Builder }

// word tells a word, or several, of a line.
func word(x any) string {
	switch v := x.(type) {
	case string:
		return v
	case int:
		return strconv.Itoa(v)
	case bool:
		if v {
			return "1"
		}
		return "0"
	case api.ID:
		return strconv.Itoa(int(v))
	case api.Atom:
		return strconv.Itoa(int(v))
	case api.Pixel:
		return strconv.Itoa(int(v))
	case uint32:
		return strconv.Itoa(int(v))
	case int64:
		return strconv.FormatInt(v, 10)
	}
	return ""
}

func (p *page) line(words ...any) {
	for i, w := range words {
		if i > 0 {
			p.WriteByte(' ')
		}
		p.WriteString(word(w))
	}
	p.WriteByte('\n')
}

// rects puts the four numbers of each rectangle behind the words.
func rects(words []any, l []api.Rect) []any {
	for _, r := range l {
		words = append(words, r.X, r.Y, r.W, r.H)
	}
	return words
}

func mark(g grid.Grid) int {
	n := 0
	b := image.Pack(g)
	for i := range len(b) {
		n = (n*markTimes + int(b[i])) % markModulo
	}
	return n
}

// Text tells all that the world has, in lines.
func (w World) Text() string {
	p := &page{}
	p.line("size", w.W, w.H, w.Closed)
	for _, client := range slices.Sorted(maps.Keys(w.Clients)) {
		if w.Clients[client] {
			p.line("client", client)
		}
	}
	for i, name := range w.Atoms.All() {
		p.line("atom", i+1, name)
	}
	for _, id := range w.In.Tree.Below(ident.Root) {
		w.window(p, id)
	}
	for _, id := range w.Held.All() {
		w.resource(p, id)
	}
	w.claims(p)
	for client := 1; client <= api.MaxClients; client++ {
		if l := w.Saves.Of(client); len(l) > 0 {
			words := []any{"save", client}
			for _, id := range l {
				words = append(words, id)
			}
			p.line(words...)
		}
	}
	w.input(p)
	return p.String()
}

func (w World) window(p *page, id api.ID) {
	parent, _ := w.In.Tree.Parent(id)
	b, _ := w.Place.Box(id)
	ground, backing, _ := w.Canvas.Ground(id)
	p.line("window", id, parent, b.X, b.Y, b.W, b.H, b.Mapped, w.Over[id], b.Grav, b.Bits, w.In.Choice.Stopped(id), ground, backing)
	if b.Shaped {
		p.line(rects([]any{"shape", id}, b.Shape.Rects())...)
	}
	g, _ := w.Canvas.Grid(id)
	p.line("mark", id, mark(g))
	for _, name := range w.Props[id].Names() {
		x, _ := w.Props[id].Find(name)
		words := []any{"prop", id, name, x.Type, x.Format}
		for _, v := range x.Data {
			words = append(words, v)
		}
		p.line(words...)
	}
	for _, client := range w.In.Choice.Who(id, api.MaskAll) {
		p.line("select", id, client, w.In.Choice.Mask(client, id))
	}
}

func (w World) resource(p *page, id api.ID) {
	kind := w.Held.Kind(id)
	p.line("held", id, kind)
	switch kind {
	case held.Pixmap:
		g, _ := w.Canvas.Grid(id)
		p.line("mark", id, mark(g))
	case held.Pen:
		x := w.Pens[id]
		p.line(rects([]any{"pen", id, x.Func, x.Planes, x.Fore, x.Back, x.Font, x.X, x.Y, x.Clipped}, x.Clip)...)
	case held.Font:
		p.line("font", id, w.Fonts[id])
	}
}

func (w World) claims(p *page) {
	for a := api.Atom(1); a <= api.MaxAtoms; a++ {
		if c, ok := w.Claims.Owner(a); ok {
			p.line("claim", a, c.Client, c.Window, c.Time)
		}
	}
	for _, q := range w.Claims.All() {
		p.line("asked", q.Asker, q.Requestor, q.Selection, q.Target, q.Property, q.Time)
	}
}

func (w World) input(p *page) {
	s := w.In
	for _, g := range s.Passive.All() {
		p.line("grab", g.Client, g.Window, g.Button, g.Code, g.Mods, g.Owner, g.Mask, g.Pointer, g.Keyboard)
	}
	p.line("focus", s.Focus.Window, s.Focus.Revert, s.Focus.Time)
	p.line("pointer", s.X, s.Y, s.Buttons, s.Mods, s.Under, s.Now)
	for n, d := range []freeze.Device{s.Pointer, s.Keyboard} {
		p.line("device", n, d.Frozen(), d.Stepping())
		if a, ok := d.Active(); ok {
			p.line("active", n, a.Client, a.Window, a.Owner, a.Mask, a.Auto, a.Passive, a.Code, a.Time)
		}
		for _, i := range d.Waiting() {
			p.line("waits", n, i.Kind, i.Code, i.X, i.Y, i.Time)
		}
	}
}
