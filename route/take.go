package route

import (
	"slices"

	"glazier/api"
	"glazier/freeze"
	"glazier/ident"
	"glazier/passive"
)

// kind is what inputs of a kind are: of which device, which codes, which mask, and what is done with one.
type kind struct {
	pointer, button, press bool
	least, most            int
	mask                   int
	take                   func(r *run, k kind, i api.Input, but []api.ID)
}

const kinds = api.EvMotion + 1

func table() [kinds]kind {
	return [...]kind{
		api.EvKeyPress:      {false, false, true, 1, mostKey, api.MaskKeyPress, (*run).takePress},
		api.EvKeyRelease:    {false, false, false, 1, mostKey, api.MaskKeyRelease, (*run).takeRelease},
		api.EvButtonPress:   {true, true, true, 1, mostButton, api.MaskButtonPress, (*run).takePress},
		api.EvButtonRelease: {true, true, false, 1, mostButton, api.MaskButtonRelease, (*run).takeRelease},
		api.EvMotion:        {true, false, false, 0, 0, api.MaskMotion, (*run).takeMotion},
	}
}

func kindOf(n int) (kind, bool) {
	if n < api.EvKeyPress || n >= kinds {
		return kind{}, false
	}
	return table()[n], true
}

// bit tells the bit of a button, or of a key that is a mod; 0 of others.
func (k kind) bit(code int) int {
	switch {
	case code < k.least || code > k.most:
		return 0
	case k.button:
		return 1 << (code - 1)
	case !k.pointer && code >= firstMod:
		return 1 << (code - firstMod)
	}
	return 0
}

// bits are those of the buttons, or of the mods, that are down.
func (r *run) bits(k kind) *int {
	if k.pointer {
		return &r.Buttons
	}
	return &r.Mods
}

// down tells what is down behind all inputs of the device that wait.
func (r *run) down(k kind) int {
	bits := *r.bits(k)
	for _, i := range r.device(k.pointer).Waiting() {
		w, _ := kindOf(i.Kind)
		bits = w.turned(bits, i.Code)
	}
	return bits
}

// turned tells the bits behind a press or a release.
func (k kind) turned(bits, code int) int {
	if k.press {
		return bits | k.bit(code)
	}
	return bits &^ k.bit(code)
}

// take does with an input what its kind asks; no passive grabs of these windows are looked at.
func (r *run) take(i api.Input, but []api.ID) {
	if k, ok := kindOf(i.Kind); ok {
		k.take(r, k, i, but)
	}
}

// untake brings a button, or a mod, back to where it was ahead of the input.
func (r *run) untake(i api.Input) {
	k, ok := kindOf(i.Kind)
	if !ok {
		return
	}
	k.press = !k.press
	*r.bits(k) = k.turned(*r.bits(k), i.Code)
}

// way tells the windows up which an event goes.
func (r *run) way(k kind) []api.ID {
	if k.pointer {
		return r.Tree.Path(r.Under)
	}
	return r.Focus.Way(r.Tree, r.Under)
}

// names tells the window, and the clients, that an input of the kind names.
func (r *run) names(k kind) (api.ID, []int) {
	id, clients := r.Choice.Find(r.way(k), k.mask)
	a, ok := r.device(k.pointer).Active()
	switch {
	case !ok:
		return id, clients
	case a.Owner && slices.Contains(clients, a.Client):
		return id, []int{a.Client}
	case a.Mask&k.mask != 0:
		return a.Window, []int{a.Client}
	}
	return 0, nil
}

// child tells the kid of the window that is on the path of Under.
func (r *run) child(id api.ID) api.ID {
	path := r.Tree.Path(r.Under)
	if i := slices.Index(path, id); i > 0 {
		return path[i-1]
	}
	return 0
}

// tell says an input's event to those whom it names, and tells these.
func (r *run) tell(k kind, i api.Input) (api.ID, []int) {
	id, clients := r.names(k)
	at, _ := r.View.Origin(id)
	r.say(clients, i.Kind, int64(id), int64(r.child(id)), int64(i.Code), r.state(), short(r.X-at.X), short(r.Y-at.Y), int64(r.X), int64(r.Y), int64(i.Time))
	return id, clients
}

func (r *run) takeMotion(k kind, i api.Input, _ []api.ID) {
	r.bring(i.X, i.Y)
	r.cross()
	r.tell(k, i)
}

// grabWay tells the windows whose passive grabs a press may activate, from the root on.
func (r *run) grabWay(k kind) []api.ID {
	var path []api.ID
	switch under := r.Tree.Path(r.Under); {
	case k.pointer:
		path = under
	case r.Focus.Window == 0:
		return nil
	case r.Focus.Window != ident.Root:
		path = r.Tree.Path(r.Focus.Window)
	case len(under) > 0:
		path = under
	default:
		path = []api.ID{ident.Root}
	}
	slices.Reverse(path)
	return path
}

// activate begins the passive grab that a press activates, if there is one.
func (r *run) activate(k kind, i api.Input, but []api.ID) bool {
	path := slices.DeleteFunc(r.grabWay(k), func(id api.ID) bool { return slices.Contains(but, id) })
	g, ok := r.Passive.Find(path, k.button, i.Code, r.Mods)
	if !ok {
		return false
	}
	r.begin(k.pointer, activeOf(g, i), g.Pointer, g.Keyboard)
	if d := r.device(k.pointer); d.Frozen() {
		*d = d.Hold(i)
	}
	return true
}

// activeOf tells the grab that a passive one becomes.
func activeOf(g passive.Grab, i api.Input) freeze.Active {
	return freeze.Active{Client: g.Client, Window: g.Window, Owner: g.Owner, Mask: g.Mask, Passive: true, Code: i.Code, Time: i.Time}
}

func (r *run) takePress(k kind, i api.Input, but []api.ID) {
	_, grabbed := r.device(k.pointer).Active()
	if !grabbed {
		grabbed = r.activate(k, i, but)
	}
	id, clients := r.tell(k, i)
	if !grabbed && k.button && len(clients) > 0 {
		a := freeze.Active{Client: clients[0], Window: id, Mask: r.Choice.Mask(clients[0], id), Auto: true, Code: i.Code, Time: i.Time}
		r.Pointer = r.Pointer.Begin(a, false)
	}
	*r.bits(k) = k.turned(*r.bits(k), i.Code)
}

func (r *run) takeRelease(k kind, i api.Input, _ []api.ID) {
	r.tell(k, i)
	*r.bits(k) = k.turned(*r.bits(k), i.Code)
	r.endIf(k.pointer, func(a freeze.Active) bool {
		if k.button {
			return r.Buttons == 0 && (a.Auto || a.Passive)
		}
		return a.Passive && a.Code == i.Code
	})
}
