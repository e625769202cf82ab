package route_test

import (
	"math/rand"
	"slices"
	"testing"

	"glazier/api"
	"glazier/cross"
	"glazier/focus"
	"glazier/freeze"
	"glazier/passive"
	"glazier/place"
	"glazier/route"
	"glazier/tree"
	"glazier/view"
)

func want[T comparable](t *testing.T, what string, got, wanted T) {
	t.Helper()
	if got != wanted {
		t.Errorf("%s: %v, wanted %v", what, got, wanted)
	}
}

// a on the root at 1, 1, 4 by 4; b in a at 1, 1, 2 by 2; c on the root at 6, 6, 2 by 2.
const a, b, c = api.ID(1<<20 + 1), api.ID(1<<20 + 2), api.ID(2<<20 + 1)

func looked(mapped ...api.ID) (tree.Tree, view.View) {
	t, _ := tree.New().Add(a, 1)
	t, _ = t.Add(b, a)
	t, _ = t.Add(c, 1)
	p, _ := place.New(8, 8)
	p, _ = p.Set(a, place.Box{X: 1, Y: 1, W: 4, H: 4, Mapped: slices.Contains(mapped, a)})
	p, _ = p.Set(b, place.Box{X: 1, Y: 1, W: 2, H: 2, Mapped: slices.Contains(mapped, b)})
	p, _ = p.Set(c, place.Box{X: 6, Y: 6, W: 2, H: 2, Mapped: slices.Contains(mapped, c)})
	return t, view.Of(t, p)
}

func start(x, y int) route.State {
	t, v := looked(a, b, c)
	under, _ := v.At(x, y)
	return route.State{Tree: t, View: v, X: x, Y: y, Under: under, Focus: focus.Focus{Window: 1, Revert: focus.ToRoot}}
}

func sel(s route.State, client int, id api.ID, mask int) route.State {
	s.Choice, _ = s.Choice.Set(client, id, mask)
	return s
}

func grabs(s route.State, g passive.Grab) route.State {
	s.Passive, _ = s.Passive.Add(g)
	return s
}

func press(n int, time uint32) api.Input {
	return api.Input{Kind: api.EvButtonPress, Code: n, Time: time}
}
func release(n int, time uint32) api.Input {
	return api.Input{Kind: api.EvButtonRelease, Code: n, Time: time}
}
func motion(x, y int, time uint32) api.Input {
	return api.Input{Kind: api.EvMotion, X: x, Y: y, Time: time}
}
func key(n int, time uint32) api.Input {
	return api.Input{Kind: api.EvKeyPress, Code: n, Time: time}
}
func keyUp(n int, time uint32) api.Input {
	return api.Input{Kind: api.EvKeyRelease, Code: n, Time: time}
}

// does takes inputs, and tells all that was said.
func does(t *testing.T, s route.State, l ...api.Input) (route.State, []api.Send) {
	t.Helper()
	var all []api.Send
	for _, i := range l {
		u, said, e := route.Step(s, i)
		want(t, "Step", e, api.OK)
		s, all = u, append(all, said...)
	}
	return s, all
}

// said holds against what is wanted: client, code, and all numbers.
func said(t *testing.T, got []api.Send, wanted ...[]int64) {
	t.Helper()
	ok := len(got) == len(wanted)
	for i := range got {
		n := append([]int64{int64(got[i].Client), int64(got[i].Out.Code)}, got[i].Out.N...)
		ok = ok && slices.Equal(n[:min(len(n), len(wanted[i]))], wanted[i]) && got[i].Out.Kind == api.Event && got[i].Out.Seq == 0
	}
	if !ok {
		t.Errorf("said: %v, wanted %v", got, wanted)
	}
}

// P40.1: the chapter's example.
func TestExample(t *testing.T) {
	s := sel(start(4, 5), 1, 1, api.MaskButtonPress|api.MaskButtonRelease)
	s, l := does(t, s, press(1, 5))
	said(t, l, []int64{1, 3, 1, 0, 1, 0, 4, 5, 4, 5, 5})
	g, ok := s.Pointer.Active()
	want(t, "Auto", ok && g == freeze.Active{Client: 1, Window: 1, Mask: 12, Auto: true, Code: 1, Time: 5}, true)
	s, l = does(t, s, press(2, 6), release(1, 7), release(2, 8))
	said(t, l, []int64{1, 3, 1, 0, 2, 256}, []int64{1, 4, 1, 0, 1, 768}, []int64{1, 4, 1, 0, 2, 512})
	_, ok = s.Pointer.Active()
	want(t, "no grab", ok || s.Buttons != 0 || s.Count != 4 || s.Now != 8, false)
}

// P40.1: what Step refuses, in order.
func TestRefused(t *testing.T) {
	s, _ := does(t, start(0, 0), press(1, 5), key(250, 5))
	for _, x := range []struct {
		i api.Input
		e api.Errno
	}{
		{api.Input{Kind: 0, Code: 999}, api.ErrKind}, {api.Input{Kind: 6}, api.ErrKind}, {press(0, 1<<31), api.ErrRange}, {press(6, 0), api.ErrRange}, {key(0, 0), api.ErrRange}, {key(256, 0), api.ErrRange}, {api.Input{Kind: api.EvMotion, Code: 1}, api.ErrRange},
		{press(1, 1<<31), api.ErrTime}, {press(1, 5), api.ErrState}, {release(2, 5), api.ErrState}, {key(250, 5), api.ErrState}, {keyUp(251, 5), api.ErrState}, {key(10, 3), api.OK}, {keyUp(10, 3), api.OK}, {release(1, 1<<31-1), api.OK},
	} {
		u, l, e := route.Step(s, x.i)
		want(t, "Step", e, x.e)
		want(t, "as it was", u.Count == s.Count && len(l) == 0, e != api.OK)
	}
	s, _ = does(t, s, release(1, 2))
	want(t, "Now doesn't fall", s.Now, 5)
	// Behind what waits: the button is down there, then up.
	s.Pointer = s.Pointer.Begin(freeze.Active{Client: 1, Window: 1}, true)
	s, _ = does(t, s, press(1, 9))
	_, _, e := route.Step(s, press(1, 9))
	want(t, "down as it waits", e, api.ErrState)
	s, _ = does(t, s, release(1, 9), press(1, 9))
	for len(s.Pointer.Waiting()) < 256 {
		s, _ = does(t, s, motion(0, 0, 9))
	}
	_, _, e = route.Step(s, motion(0, 0, 9))
	want(t, "full", e, api.ErrFull)
	_, _, e = route.Step(s, key(9, 9))
	want(t, "the keyboard goes on", e, api.OK)
}

// P40.1: a motion, with crossings, by choices up the way.
func TestMotion(t *testing.T) {
	s := sel(sel(sel(sel(start(0, 0), 1, 1, api.MaskMotion|api.MaskLeave), 2, a, api.MaskEnter|api.MaskLeave|api.MaskMotion), 3, b, api.MaskEnter), 4, a, api.MaskMotion)
	s, l := does(t, s, motion(3, 2, 7))
	said(t, l, []int64{1, 7, 1, cross.Inferior, 3, 2, 3, 2, 0, 7}, []int64{2, 6, int64(a), cross.Virtual, 2, 1, 3, 2, 0, 7}, []int64{3, 6, int64(b), cross.Ancestor, 1, 0, 3, 2, 0, 7},
		[]int64{2, 5, int64(a), int64(b), 0, 0, 2, 1, 3, 2, 7}, []int64{4, 5, int64(a), int64(b), 0, 0, 2, 1, 3, 2, 7})
	s, l = does(t, s, motion(-1<<40, 1<<40, 8))
	want(t, "onto the screen", s.X == 0 && s.Y == 7 && s.Under == 1, true)
	said(t, l, []int64{2, 7, int64(a), cross.Virtual, -1, 6, 0, 7, 0, 8}, []int64{1, 5, 1, 0, 0, 0, 0, 7, 0, 7, 8})
	s.Choice, _ = s.Choice.Stop(a, api.MaskMotion)
	s.Choice = s.Choice.Drop(2).Drop(4)
	_, l = does(t, s, motion(3, 2, 9))
	said(t, l, []int64{1, 7, 1}, []int64{3, 6, int64(b)})
	var none route.State
	none, _ = does(t, none, motion(77777, -5, 1))
	want(t, "no windows", none.X == 77777 && none.Y == -5 && none.Under == 0, true)
}

// P40.1: keys go the focus's way.
func TestKeys(t *testing.T) {
	s := sel(sel(sel(start(3, 3), 1, 1, api.MaskKeyPress|api.MaskKeyRelease), 2, b, api.MaskKeyPress), 3, c, api.MaskKeyPress)
	s, l := does(t, s, key(65, 5), keyUp(65, 6), key(249, 7), key(66, 8))
	said(t, l, []int64{2, 1, int64(b), 0, 65, 0, 1, 1, 3, 3, 5}, []int64{1, 2, 1, int64(a), 65, 0, 3, 3, 3, 3, 6}, []int64{2, 1, int64(b), 0, 249, 0}, []int64{2, 1, int64(b), 0, 66, 2})
	want(t, "Mods", s.Mods, 2)
	s.Focus.Window = c
	s, l = does(t, s, key(67, 9))
	said(t, l, []int64{3, 1, int64(c), 0, 67, 2, -3, -3, 3, 3, 9})
	s.Focus.Window = 0
	_, l = does(t, s, key(67, 9), keyUp(249, 9))
	said(t, l)
}

// P40.1: grabs that are active name their client alone, or by Owner its windows.
func TestActive(t *testing.T) {
	s := sel(sel(start(3, 3), 1, b, api.MaskButtonPress), 2, b, api.MaskMotion)
	g := freeze.Active{Client: 1, Window: c, Mask: api.MaskMotion}
	s, status, l := route.Grab(s, true, g, 0, 0)
	want(t, "Grab", status == 0 && len(l) == 0, true)
	_, l = does(t, s, press(1, 5), motion(3, 2, 6))
	said(t, l, []int64{1, 5, int64(c), 0, 0, 256, -3, -4, 3, 2, 6})
	g.Owner, g.Mask = true, api.MaskButtonPress|api.MaskMotion
	s, _, _ = route.Grab(s, true, g, 0, 0)
	_, l = does(t, s, press(1, 5), motion(3, 2, 6))
	said(t, l, []int64{1, 3, int64(b), 0, 1, 0, 1, 1}, []int64{1, 5, int64(c), 0, 0, 256, -3, -4})
}

// P40.1: passive grabs, from the root on.
func TestPassive(t *testing.T) {
	one := passive.Grab{Client: 1, Window: a, Button: true, Code: 1, Mods: passive.AnyMods, Mask: api.MaskButtonPress, Owner: true}
	two := passive.Grab{Client: 2, Window: b, Button: true, Code: 1, Mods: passive.AnyMods, Mask: api.MaskButtonPress}
	s := grabs(grabs(start(3, 3), two), one)
	s, l := does(t, s, press(1, 5))
	said(t, l, []int64{1, 3, int64(a), int64(b), 1, 0, 2, 2, 3, 3, 5})
	g, ok := s.Pointer.Active()
	want(t, "Passive", ok && g == freeze.Active{Client: 1, Window: a, Owner: true, Mask: 4, Passive: true, Code: 1, Time: 5}, true)
	s, l = does(t, s, press(2, 5), release(1, 5))
	said(t, l, []int64{1, 3, int64(a), int64(b), 2, 256})
	_, ok = s.Pointer.Active()
	want(t, "still", ok, true)
	s, _ = does(t, s, release(2, 5))
	_, ok = s.Pointer.Active()
	want(t, "ended", ok, false)
	k := passive.Grab{Client: 3, Window: 1, Code: 65, Mods: 1, Mask: api.MaskKeyPress | api.MaskKeyRelease}
	s = grabs(start(7, 0), k)
	s, l = does(t, s, key(65, 1), key(248, 2), key(65, 3), keyUp(66, 4), keyUp(65, 5), keyUp(65, 6))
	said(t, l, []int64{3, 1, 1, 0, 65, 1}, []int64{3, 2, 1, 0, 66, 1}, []int64{3, 2, 1, 0, 65, 1})
	s.Focus.Window = 0
	_, l = does(t, s, key(65, 7))
	said(t, l)
	s.Focus.Window = c
	_, l = does(t, s, key(65, 7))
	said(t, l, []int64{3, 1, 1, 0, 65, 1})
	_, l = does(t, grabs(start(3, 3), passive.Grab{Client: 3, Window: b, Code: 65, Mask: 3}), key(65, 1))
	said(t, l, []int64{3, 1, int64(b)})
}

// P40.1, P40.4, P40.6: frozen devices lose nothing; steps; replay.
func TestFrozen(t *testing.T) {
	sync := passive.Grab{Client: 1, Window: a, Button: true, Code: 0, Mods: passive.AnyMods, Mask: api.MaskButtonPress | api.MaskButtonRelease | api.MaskMotion, Pointer: freeze.Sync, Keyboard: freeze.Sync}
	s := sel(grabs(start(3, 3), sync), 2, b, api.MaskButtonPress|api.MaskKeyPress)
	s, l := does(t, s, press(1, 5), motion(2, 2, 6), key(70, 7), release(1, 8), motion(3, 3, 9))
	said(t, l, []int64{1, 3, int64(a)})
	want(t, "waits", len(s.Pointer.Waiting())*10+len(s.Keyboard.Waiting()), 31)
	for _, x := range []struct {
		client, mode int
		time         uint32
	}{{2, 0, 0}, {1, 6, 0}, {1, -1, 0}, {1, 0, 4}, {1, 0, 10}, {2, 3, 0}} {
		u, l := route.Allow(s, x.client, x.mode, x.time)
		want(t, "nothing", len(l) == 0 && u.Pointer.Frozen() && u.Keyboard.Frozen(), true)
	}
	u, l := route.Allow(s, 1, 1, 5)
	said(t, l, []int64{1, 5, int64(a)}, []int64{1, 4, int64(a), int64(b), 1, 256}, []int64{2, 1, int64(b)})
	_, ok := u.Pointer.Active()
	want(t, "the grab ended by the release", ok, false)
	_, l = route.Allow(s, 1, 3, 0)
	said(t, l, []int64{2, 1, int64(b), 0, 70, 256})
	u, l = route.Allow(s, 1, 0, 0)
	said(t, l, []int64{1, 5, int64(a)}, []int64{1, 4, int64(a)}, []int64{2, 1, int64(b)})
	want(t, "all is taken", len(u.Pointer.Waiting())+len(u.Keyboard.Waiting()), 0)
	// Replay: the press goes to whom it names without the passive grab, as if it hadn't been.
	u, l = route.Allow(s, 1, 2, 0)
	said(t, l, []int64{2, 3, int64(b), 0, 1, 0}, []int64{2, 1, int64(b)})
	want(t, "Replay", u.Buttons == 0 && len(u.Pointer.Waiting()) == 0, true)
	s = grabs(s, passive.Grab{Client: 3, Window: b, Button: true, Code: 1, Mods: passive.AnyMods, Mask: api.MaskButtonPress})
	_, l = route.Allow(s, 1, 2, 0)
	said(t, l, []int64{3, 3, int64(b), 0, 1, 0}, []int64{2, 1, int64(b)})
}

// P40.4: a step stops at the next press, which is held.
func TestStep(t *testing.T) {
	s := start(3, 3)
	s, _, _ = route.Grab(s, true, freeze.Active{Client: 1, Window: a, Mask: api.MaskMotion | api.MaskButtonPress}, freeze.Sync, freeze.Async)
	s, _ = does(t, s, motion(2, 2, 5), press(1, 6), motion(3, 3, 7))
	s, l := route.Allow(s, 1, 1, 0)
	said(t, l, []int64{1, 5}, []int64{1, 3})
	want(t, "waits again", s.Pointer.Frozen() && s.Buttons == 1 && len(s.Pointer.Waiting()) == 1, true)
	u := sel(s, 2, b, api.MaskButtonPress)
	u, l = route.Allow(u, 1, 2, 0)
	said(t, l, []int64{2, 3, int64(b), 0, 1, 0})
	g, _ := u.Pointer.Active()
	want(t, "Replay", g.Auto && g.Client == 2 && u.Buttons == 1 && u.X == 3, true)
	s, _ = route.Allow(s, 1, 1, 0)
	want(t, "a step waits for the next", s.Pointer.Stepping() && !s.Pointer.Frozen(), true)
	s, _ = does(t, s, release(1, 8))
	want(t, "frozen by the release", s.Pointer.Frozen(), true)
}

// P40.1: which device is next, fields that are bounded, and the last codes.
func TestEdges(t *testing.T) {
	s := sel(sel(start(3, 3), 2, 1, api.MaskKeyPress|api.MaskMotion), 2, a, 0)
	s.Pointer, s.Keyboard = s.Pointer.Begin(freeze.Active{Client: 1, Window: a}, true), s.Keyboard.Freeze()
	s, _ = does(t, s, key(65, 5), motion(0, 0, 6), key(66, 7), motion(1, 0, 8))
	_, l := route.Ungrab(s, true, 1, 0)
	said(t, l, []int64{2, 1, 1, int64(a), 65}, []int64{2, 5, 1, 0, 0, 0, 0, 0}, []int64{2, 1, 1, 0, 66}, []int64{2, 5, 1, 0, 0, 0, 1, 0})
	k, _, _ := route.Grab(start(3, 3), false, freeze.Active{Client: 1, Window: a}, freeze.Sync, freeze.Async)
	want(t, "modes", k.Pointer.Frozen() && !k.Keyboard.Frozen(), true)
	k, _, _ = route.Grab(start(3, 3), false, freeze.Active{Client: 1, Window: a}, freeze.Async, freeze.Sync)
	want(t, "modes", !k.Pointer.Frozen() && k.Keyboard.Frozen(), true)
	k = grabs(start(3, 3), passive.Grab{Client: 3, Window: 1, Code: 1, Mask: api.MaskKeyPress})
	k.Under = 0
	_, l = does(t, k, key(1, 5))
	said(t, l, []int64{3, 1, 1, 0, 1})
	s, l = does(t, sel(start(3, 3), 2, 1, api.MaskButtonPress), key(255, 1), press(5, 2), key(248, 3))
	said(t, l, []int64{2, 3, 1, int64(a), 5, 128})
	want(t, "bits", s.Mods == 129 && s.Buttons == 16, true)
	u, p := tree.New(), place.Place{}
	p, _ = place.New(8, 8)
	for i, w := range []api.ID{a, b} {
		u, _ = u.Add(w, map[int]api.ID{0: 1, 1: a}[i])
		p, _ = p.Set(w, place.Box{X: 32767, Y: -32768, W: 1, H: 1, Mapped: true})
	}
	far := route.State{Tree: u, View: view.Of(u, p), Focus: focus.Focus{Window: b}, X: 3, Y: 4, Under: 1}
	_, l = does(t, sel(far, 2, b, api.MaskKeyPress), key(65, 1))
	said(t, l, []int64{2, 1, int64(b), 0, 65, 0, -32768, 32767, 3, 4, 1})
}

// P40.2
func TestMoved(t *testing.T) {
	s := sel(sel(sel(start(3, 3), 1, a, api.MaskFocus|api.MaskLeave), 2, 1, api.MaskFocus|api.MaskEnter), 3, b, api.MaskFocus|api.MaskLeave|api.MaskMotion)
	s.Focus = focus.Focus{Window: b, Revert: focus.ToParent, Time: 3}
	s.Pointer = s.Pointer.Begin(freeze.Active{Client: 4, Window: b}, true)
	s.Keyboard = s.Keyboard.Freeze()
	s, _ = does(t, s, key(65, 5))
	s.Tree, s.View = looked(c)
	u, l := route.Moved(s)
	said(t, l, []int64{3, 9, int64(b), cross.Ancestor}, []int64{1, 9, int64(a), cross.Virtual}, []int64{2, 8, 1, cross.Inferior},
		[]int64{3, 7, int64(b), cross.Ancestor, 3, 3, 3, 3, 0, 5}, []int64{1, 7, int64(a), cross.Virtual}, []int64{2, 6, 1, cross.Inferior})
	_, ok := u.Pointer.Active()
	want(t, "ended", ok || u.Keyboard.Frozen() || len(u.Keyboard.Waiting()) > 0, false)
	want(t, "Moved", u.Focus == focus.Focus{Window: 1, Time: 3} && u.Under == 1, true)
	keys := start(3, 3)
	keys.Keyboard = keys.Keyboard.Begin(freeze.Active{Client: 4, Window: b}, false)
	_, v := looked(a, c)
	keys.View = v
	keys, _ = route.Moved(keys)
	_, ok = keys.Keyboard.Active()
	want(t, "the keyboard's, too", ok, false)
	same := start(3, 3)
	u, l = route.Moved(same)
	want(t, "the same", len(l) == 0 && u.Under == b && u.Focus == same.Focus, true)
}

// P40.3
func TestGrab(t *testing.T) {
	s, _ := does(t, start(3, 3), motion(3, 3, 20))
	_, v := looked(a, c)
	s, status, _ := route.Grab(s, true, freeze.Active{Client: 1, Window: a, Time: 10}, 0, freeze.Sync)
	want(t, "Grab", status == 0 && !s.Pointer.Frozen() && s.Keyboard.Frozen(), true)
	g, _ := s.Pointer.Active()
	want(t, "Time", g.Time, 10)
	hidden := s
	hidden.View = v
	for _, x := range []struct {
		s       route.State
		pointer bool
		a       freeze.Active
		status  int
	}{
		{hidden, true, freeze.Active{Client: 2, Window: b, Time: 30}, 1}, {hidden, true, freeze.Active{Client: 1, Window: b, Time: 30}, 3}, {s, true, freeze.Active{Client: 1, Window: b, Time: 21}, 2}, {s, true, freeze.Active{Client: 1, Window: b, Time: 9}, 2},
		{s, false, freeze.Active{Client: 2, Window: b, Time: 21}, 2}, {s, false, freeze.Active{Client: 2, Window: b, Time: 3}, 4}, {s, false, freeze.Active{Client: 1, Window: b, Time: 3}, 0}, {s, true, freeze.Active{Client: 1, Window: b, Time: 10}, 0}, {s, true, freeze.Active{Client: 1, Window: 99}, 3},
	} {
		_, status, l := route.Grab(x.s, x.pointer, x.a, 0, 0)
		want(t, "status", status, x.status)
		want(t, "said", len(l), 0)
	}
	s, _, _ = route.Grab(s, true, freeze.Active{Client: 1, Window: c}, freeze.Sync, 0)
	g, _ = s.Pointer.Active()
	want(t, "now", g.Time == 20 && s.Pointer.Frozen() && s.Keyboard.Frozen(), true)
	s, _ = does(t, s, motion(7, 7, 21))
	s, _, l := route.Grab(s, true, freeze.Active{Client: 1, Window: c, Mask: api.MaskMotion}, 0, 0)
	said(t, l, []int64{1, 5, int64(c), 0, 0, 0, 1, 1, 7, 7, 21})
	want(t, "Run", s.X, 7)
}

// P40.4, P40.6
func TestUngrab(t *testing.T) {
	s, _ := does(t, sel(start(3, 3), 5, 1, api.MaskKeyPress), motion(3, 3, 20))
	s, _, _ = route.Grab(s, true, freeze.Active{Client: 1, Window: a, Time: 10}, 0, freeze.Sync)
	s, _ = does(t, s, key(65, 20))
	for _, x := range []struct {
		pointer bool
		client  int
		time    uint32
	}{{false, 1, 0}, {true, 2, 0}, {true, 1, 9}, {true, 1, 21}} {
		u, l := route.Ungrab(s, x.pointer, x.client, x.time)
		_, ok := u.Pointer.Active()
		want(t, "nothing", ok && len(l) == 0, true)
	}
	for _, time := range []uint32{0, 10, 20} {
		u, l := route.Ungrab(s, true, 1, time)
		_, ok := u.Pointer.Active()
		want(t, "ends", ok || u.Keyboard.Frozen(), false)
		said(t, l, []int64{5, 1, 1, int64(a), 65})
	}
}

// P40.5
func TestFocusWarpLeave(t *testing.T) {
	s := sel(sel(start(3, 3), 1, b, api.MaskFocus|api.MaskLeave), 2, c, api.MaskFocus|api.MaskEnter)
	s.Focus = focus.Focus{Window: b, Time: 5}
	s.Now = 9
	for _, x := range []struct {
		id     api.ID
		revert int
		time   uint32
		e      api.Errno
	}{{99, 7, 1 << 31, api.ErrTime}, {99, 7, 1, api.ErrKind}, {99, 0, 1, api.ErrNone}, {c, 0, 4, api.OK}, {c, 0, 10, api.OK}} {
		u, l, e := route.SetFocus(s, x.id, x.revert, x.time)
		want(t, "SetFocus", e == x.e && len(l) == 0 && u.Focus == s.Focus, true)
	}
	u, l, e := route.SetFocus(s, c, 2, 0)
	want(t, "SetFocus", e == api.OK && u.Focus == focus.Focus{Window: c, Revert: 2, Time: 9}, true)
	said(t, l, []int64{1, 9, int64(b), cross.Nonlinear}, []int64{2, 8, int64(c), cross.Nonlinear})
	u, l = route.Warp(s, 6, 99)
	want(t, "Warp", u.X == 6 && u.Y == 7 && u.Under == c, true)
	said(t, l, []int64{1, 7, int64(b), cross.Nonlinear, 4, 5, 6, 7, 0, 9}, []int64{2, 6, int64(c), cross.Nonlinear, 0, 1, 6, 7, 0, 9})
	for _, by := range []struct {
		client int
		ids    []api.ID
	}{{1, nil}, {0, []api.ID{a}}} {
		g := grabs(sel(sel(s, 1, a, api.MaskMotion), 5, 1, api.MaskKeyPress), passive.Grab{Client: 1, Window: a, Code: 1})
		g.Focus.Window = 1
		g, _, _ = route.Grab(g, true, freeze.Active{Client: 1, Window: a}, 0, freeze.Sync)
		g, _ = does(t, g, key(65, 20))
		g, l = route.Leave(g, by.client, by.ids...)
		_, ok := g.Pointer.Active()
		want(t, "Leave", ok || len(g.Passive.All()) > 0 || g.Choice.Mask(1, a) != 0 || g.Keyboard.Frozen(), false)
		said(t, l, []int64{5, 1, 1})
	}
}

// P40.6: whatever comes, nothing waits on a device that isn't frozen, and nothing is lost.
func TestFollows(t *testing.T) {
	rnd := rand.New(rand.NewSource(3))
	for range 60 {
		s := sel(sel(sel(start(3, 3), 1, 1, 31), 2, a, 27), 3, b, 31&^4)
		for _, w := range []api.ID{1, a, b} {
			s = grabs(s, passive.Grab{Client: 1 + rnd.Intn(3), Window: w, Button: true, Code: 1 + rnd.Intn(2), Mods: passive.AnyMods, Mask: 31, Pointer: rnd.Intn(2), Keyboard: rnd.Intn(2)})
			s = grabs(s, passive.Grab{Client: 1 + rnd.Intn(3), Window: w, Code: 65, Mods: passive.AnyMods, Mask: 31, Pointer: rnd.Intn(2), Keyboard: rnd.Intn(2)})
		}
		taken := 0
		for range 120 {
			i := api.Input{Kind: 1 + rnd.Intn(5), Code: 64 + rnd.Intn(3), X: rnd.Intn(9), Y: rnd.Intn(9), Time: uint32(rnd.Intn(99))}
			switch {
			case i.Kind == api.EvMotion:
				i.Code = 0
			case i.Kind > 2:
				i.Code = 1 + rnd.Intn(3)
			}
			waiting := len(s.Pointer.Waiting()) + len(s.Keyboard.Waiting())
			u, _, e := route.Step(s, i)
			if e == api.OK {
				waiting++
			}
			s = u
			switch client := 1 + rnd.Intn(3); rnd.Intn(6) {
			case 0:
				s, _ = route.Allow(s, client, rnd.Intn(6), 0)
			case 1:
				s, _ = route.Ungrab(s, rnd.Intn(2) == 0, client, 0)
			case 2:
				s, _, _ = route.Grab(s, rnd.Intn(2) == 0, freeze.Active{Client: client, Window: a, Mask: 31}, rnd.Intn(2), rnd.Intn(2))
			}
			taken += waiting - len(s.Pointer.Waiting()) - len(s.Keyboard.Waiting())
			for _, pair := range [][2]freeze.Device{{s.Pointer, s.Keyboard}, {s.Keyboard, s.Pointer}} {
				_, grabbed := pair[0].Active()
				_, other := pair[1].Active()
				want(t, "waits only where it is frozen", len(pair[0].Waiting()) == 0 || pair[0].Frozen(), true)
				want(t, "frozen only by a grab", !pair[0].Frozen() || grabbed || other, true)
			}
		}
		s, _ = route.Leave(s, 1)
		s, _ = route.Leave(s, 2)
		s, _ = route.Leave(s, 3)
		want(t, "all is taken", len(s.Pointer.Waiting())+len(s.Keyboard.Waiting()), 0)
		want(t, "some was", taken > 0, true)
	}
}
