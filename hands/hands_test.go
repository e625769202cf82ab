package hands_test

import (
	"slices"
	"testing"

	"glazier/api"
	"glazier/hands"
	"glazier/panes"
	"glazier/passive"
	"glazier/route"
	"glazier/told"
	"glazier/world"
)

func want[T comparable](t *testing.T, what string, got, wanted T) {
	t.Helper()
	if got != wanted {
		t.Errorf("%s: %v, wanted %v", what, got, wanted)
	}
}

// a of 1 on the root of 8 by 6, at 2, 1 of 3 by 3, mapped; b of 2 on it at 6, 0; c of 1 in a, not mapped.
const a, b, c = int64(1<<20 + 1), int64(2<<20 + 1), int64(1<<20 + 2)

func do(t *testing.T, w world.World, client, code int, n ...int64) (world.World, string) {
	t.Helper()
	was := w.Text()
	u, said, ok := hands.Do(w, client, api.Request{Code: code, N: n})
	if !ok {
		u, said, ok = panes.Do(w, client, api.Request{Code: code, N: n})
	}
	want(t, "one of its requests", ok, true)
	want(t, "as it was", w.Text(), was)
	if broken := u.Check(); len(broken) > 0 {
		t.Errorf("%d %v: rules %v", code, n, broken)
	}
	if len(said) > 0 && said[0].Out.Kind == api.Fault {
		want(t, "a fault changes nothing", u.Text(), was)
	}
	return u, told.Sends(said, "1048577", "a", "2097153", "b", "1048578", "c")
}

func example(t *testing.T) world.World {
	t.Helper()
	w, _ := world.New(8, 6, 1)
	for n := 1; n <= 3; n++ {
		w.Clients[n] = true
	}
	w, _ = do(t, w, 1, 1, a, 1, 2, 1, 3, 3, 9, 0, 0)
	w, _ = do(t, w, 1, 3, a)
	w, _ = do(t, w, 2, 1, b, 1, 6, 0, 2, 2, 8, 0, 0)
	w, _ = do(t, w, 2, 3, b)
	w, _ = do(t, w, 1, 1, c, a, 0, 0, 1, 1, 9, 0, 0)
	w.In, _, _ = route.Step(w.In, api.Input{Kind: api.EvMotion, X: 0, Y: 5, Time: 50})
	return w
}

// P49.1, P49.2, P49.3: what is looked at, in order.
func TestLooks(t *testing.T) {
	w := example(t)
	const far = 1 << 31
	for i, x := range []struct {
		client, code int
		n            []int64
		said         string
	}{
		{1, 37, []int64{99, 9, far}, "1 fault 3 99 37"}, {2, 37, []int64{a, 9, far}, "2 fault 10 a 37"}, {2, 37, []int64{0, 9, far}, "2 fault 10 1 37"}, {1, 37, []int64{1, 9, far}, "1 fault 10 1 37"}, {1, 37, []int64{c, 3, far}, "1 fault 2 3 37"}, {1, 37, []int64{c, 2, far}, "1 fault 2 -2147483648 37"}, {1, 37, []int64{c, 2, 0}, "1 fault 8 c 37"}, {1, 37, []int64{a, 2, 0}, ""}, {1, 37, nil, "1 fault 16 0 37"},
		{2, 38, nil, "2 answer 38 1 1"},
		{1, 39, []int64{99, 9, 8192, 9, 8, far}, "1 fault 3 99 39"}, {2, 39, []int64{a, 9, 8192, 9, 8, far}, "2 fault 10 a 39"}, {1, 39, []int64{a, 9, 8192, 9, 8, far}, "1 fault 2 9 39"}, {1, 39, []int64{a, 1, 8192, 9, 8, far}, "1 fault 2 8192 39"}, {1, 39, []int64{a, 1, 8191, 9, 8, far}, "1 fault 2 9 39"}, {1, 39, []int64{a, 1, 8191, 1, 8, far}, "1 fault 2 8 39"}, {1, 39, []int64{a, 1, 8191, 1, 1, far}, "1 fault 2 -2147483648 39"},
		{1, 39, []int64{a, 1, 8191, 1, 1, 0}, "1 answer 39 0"}, {1, 39, []int64{c, 0, 0, 0, 0, 0}, "1 answer 39 3"}, {1, 39, []int64{a, 0, 0, 0, 0, 51}, "1 answer 39 2"}, {1, 40, []int64{far}, "1 fault 2 -2147483648 40"}, {1, 40, []int64{0}, ""},
		{1, 41, []int64{99, 6, 256, 9, 8192, 8, 7}, "1 fault 3 99 41"}, {2, 41, []int64{a, 6, 256, 9, 8192, 8, 7}, "2 fault 10 a 41"}, {1, 41, []int64{a, 6, 256, 9, 8192, 8, 7}, "1 fault 2 6 41"}, {1, 41, []int64{a, 5, 256, 9, 8192, 8, 7}, "1 fault 2 256 41"}, {1, 41, []int64{a, 5, 32768, 9, 8192, 8, 7}, "1 fault 2 9 41"}, {1, 41, []int64{a, 5, 32768, 1, 8192, 8, 7}, "1 fault 2 8192 41"}, {1, 41, []int64{a, 5, 32768, 1, 0, 8, 7}, "1 fault 2 8 41"}, {1, 41, []int64{a, 5, 32768, 1, 0, 0, 7}, "1 fault 2 7 41"}, {1, 41, []int64{a, 5, 255, 1, 0, 0, 1}, ""}, {1, 41, []int64{a, 0, 0, 0, 8191, 1, 0}, ""}, {1, 40, []int64{far - 1}, ""}, {1, 41, []int64{a, 5, 255, 2, 0, 0, 1}, "1 fault 2 2 41"},
		{1, 42, []int64{99, 6, 256}, "1 fault 3 99 42"}, {2, 42, []int64{a, 6, 256}, "2 fault 2 6 42"}, {2, 42, []int64{a, 5, 32769}, "2 fault 2 32769 42"}, {2, 42, []int64{a, 0, 32768}, ""},
		{1, 43, []int64{99, 9, 8, 7, far}, "1 fault 3 99 43"}, {2, 43, []int64{a, 9, 8, 7, far}, "2 fault 10 a 43"}, {1, 43, []int64{a, 9, 8, 7, far}, "1 fault 2 9 43"}, {1, 43, []int64{a, 0, 8, 7, far}, "1 fault 2 8 43"}, {1, 43, []int64{a, 0, 0, 7, far}, "1 fault 2 7 43"}, {1, 43, []int64{a, 0, 0, 0, far}, "1 fault 2 -2147483648 43"}, {1, 43, []int64{a, 0, 1, 1, 0}, "1 answer 43 0"}, {1, 44, []int64{far}, "1 fault 2 -2147483648 44"},
		{1, 45, []int64{99, 0, 256, 9, 8, 7}, "1 fault 3 99 45"}, {2, 45, []int64{a, 0, 256, 9, 8, 7}, "2 fault 10 a 45"}, {1, 45, []int64{a, 0, 256, 9, 8, 7}, "1 fault 2 256 45"}, {1, 45, []int64{a, 0, 0, 9, 8, 7}, "1 fault 2 9 45"}, {1, 45, []int64{a, 0, 0, 0, 8, 7}, "1 fault 2 8 45"}, {1, 45, []int64{a, 0, 0, 0, 0, 7}, "1 fault 2 7 45"}, {1, 45, []int64{a, 255, 32768, 0, 0, 0}, ""}, {1, 46, []int64{99, 0, 256}, "1 fault 3 99 46"}, {2, 46, []int64{a, 0, 256}, "2 fault 2 256 46"},
		{1, 47, []int64{6, far}, "1 fault 2 6 47"}, {1, 47, []int64{5, far}, "1 fault 2 -2147483648 47"}, {1, 47, []int64{5, 0}, ""}, {1, 48, []int64{99}, "1 fault 3 99 48"}, {2, 48, []int64{a}, "2 answer 48 0 0 5 -2 4 0"}, {1, 49, []int64{99, 0, 0}, "1 fault 3 99 49"}, {2, 49, []int64{a, 0, 0}, "2 fault 10 a 49"},
	} {
		if _, said := do(t, w, x.client, x.code, x.n...); said != x.said {
			t.Errorf("%d: request %d %v: %s, wanted %s", i, x.code, x.n, said, x.said)
		}
	}
	for _, code := range []int{0, 36, 50, 99} {
		u, said, ok := hands.Do(w, 1, api.Request{Code: code})
		want(t, "other code", !ok && len(said) == 0 && u.Text() == w.Text(), true)
	}
	want(t, "Codes", slices.Equal(hands.Codes(), []int{37, 38, 39, 40, 41, 42, 43, 44, 45, 46, 47, 48, 49}), true)
}

// P49.2: the chapter's example, and what grabs do.
func TestGrabs(t *testing.T) {
	w := example(t)
	u, said := do(t, w, 1, 39, a, 0, 31, 0, 1, 0)
	want(t, "grab-pointer", said, "1 answer 39 0")
	g, ok := u.In.Pointer.Active()
	want(t, "Active", ok && g.Client == 1 && g.Window == api.ID(a) && !g.Owner && g.Mask == 31 && g.Time == 50 && !u.In.Pointer.Frozen() && u.In.Keyboard.Frozen(), true)
	_, said = do(t, u, 2, 39, b, 0, 0, 0, 0, 0)
	want(t, "by another one", said, "2 answer 39 1")
	u, _ = do(t, u, 2, 40, 0)
	_, ok = u.In.Pointer.Active()
	want(t, "not its", ok, true)
	u.In, _, _ = route.Step(u.In, api.Input{Kind: api.EvKeyPress, Code: 65, Time: 51})
	u.In.Choice, _ = u.In.Choice.Set(3, 1, api.MaskKeyPress)
	v, said := do(t, u, 1, 40, 0)
	_, ok = v.In.Pointer.Active()
	want(t, "ungrab-pointer", !ok && !v.In.Keyboard.Frozen() && said == "3 event 1 1 0 65 0 0 5 0 5 51", true)
	_, said = do(t, u, 1, 47, 3, 0)
	want(t, "allow-events", said, "3 event 1 1 0 65 0 0 5 0 5 51")
	// What is said by a grab stands behind its reply.
	_, said = do(t, u, 1, 43, a, 0, 0, 0, 0)
	want(t, "behind the reply", said, "1 answer 43 0; 1 event 1 a 0 65 0 -2 4 0 5 51")
	v, _ = do(t, w, 1, 43, a, 0, 0, 1, 0)
	want(t, "modes", v.In.Keyboard.Frozen() && !v.In.Pointer.Frozen(), true)
	v, _ = do(t, w, 1, 43, a, 0, 1, 0, 0)
	want(t, "modes", !v.In.Keyboard.Frozen() && v.In.Pointer.Frozen(), true)
	v, _ = do(t, w, 1, 39, a, 1, 0, 1, 0, 0)
	g, _ = v.In.Pointer.Active()
	want(t, "owner", g.Owner && v.In.Pointer.Frozen() && !v.In.Keyboard.Frozen(), true)
	w, _ = do(t, w, 1, 43, a, 1, 0, 0, 0)
	g, _ = w.In.Keyboard.Active()
	want(t, "keyboard", g.Owner && g.Mask == 3, true)
	w, _ = do(t, w, 1, 44, 0)
	_, ok = w.In.Keyboard.Active()
	want(t, "ungrab-keyboard", ok, false)
}

// P49.2: passive grabs.
func TestPassive(t *testing.T) {
	w := example(t)
	w, _ = do(t, w, 1, 41, a, 1, 4, 1, 12, 1, 0)
	w, _ = do(t, w, 1, 45, a, 65, 32768, 0, 0, 1)
	want(t, "grabs", slices.Equal(w.In.Passive.All(), []passive.Grab{{Client: 1, Window: api.ID(a), Button: true, Code: 1, Mods: 4, Owner: true, Mask: 12, Pointer: 1}, {Client: 1, Window: api.ID(a), Code: 65, Mods: 32768, Mask: 3, Keyboard: 1}}), true)
	owner, _ := do(t, w, 1, 45, a, 66, 5, 1, 0, 1)
	want(t, "owner", owner.In.Passive.All()[2], passive.Grab{Client: 1, Window: api.ID(a), Code: 66, Mods: 5, Owner: true, Mask: 3, Keyboard: 1})
	w.In.Choice, _ = w.In.Choice.Set(3, 1, api.MaskRedirect)
	_, said := do(t, w, 3, 41, a, 0, 32768, 0, 0, 0, 0)
	want(t, "crosses", said, "3 fault 10 a 41")
	_, said = do(t, w, 3, 45, a, 0, 5, 0, 0, 0)
	want(t, "crosses", said, "3 fault 10 a 45")
	u, _ := do(t, w, 3, 42, a, 1, 4)
	want(t, "not its", len(u.In.Passive.All()), 2)
	u, _ = do(t, w, 1, 42, a, 0, 4)
	u, _ = do(t, u, 1, 46, a, 65, 32768)
	want(t, "dropped", len(u.In.Passive.All()), 0)
	for i := int64(0); len(w.In.Passive.All()) < 256; i++ {
		w.In.Passive, _ = w.In.Passive.Add(passive.Grab{Client: 1, Window: api.ID(c), Button: false, Code: int(1 + i%255), Mods: int(i / 255)})
	}
	_, said = do(t, w, 1, 45, a, 77, 0, 0, 0, 0)
	want(t, "full", said, "1 fault 11 a 45")
}

// P49.2, P49.3: the focus and the pointer.
func TestFocusAndPointer(t *testing.T) {
	w := example(t)
	w.In.Choice, _ = w.In.Choice.Set(1, api.ID(a), api.MaskFocus|api.MaskEnter)
	u, said := do(t, w, 1, 37, a, 2, 0)
	want(t, "set-focus", said, "1 event 8 a 0")
	_, said = do(t, u, 1, 38)
	want(t, "get-focus", said, "1 answer 38 a 2")
	w.In.Choice, _ = w.In.Choice.Set(3, 1, api.MaskRedirect)
	_, said = do(t, w, 3, 37, 0, 0, 0)
	want(t, "nowhere, by a manager", said, "")
	u, said = do(t, w, 1, 49, a, 1, 1)
	want(t, "warp-pointer", said, "1 event 6 a 0 1 1 3 2 0 50")
	_, said = do(t, u, 2, 48, 1)
	want(t, "query-pointer", said, "2 answer 48 a 3 2 3 2 0")
	_, said = do(t, u, 2, 48, a)
	want(t, "over it", said, "2 answer 48 0 3 2 1 1 0")
	far := u
	for i := int64(0); i < 2; i++ {
		far, _ = do(t, far, 1, 1, 1<<20+50+i, []int64{1, 1<<20 + 50}[i], 32767, -32768, 1, 1, 0, 0, 0)
	}
	_, said = do(t, far, 2, 48, 1<<20+51)
	want(t, "far", said, "2 answer 48 0 3 2 -32768 32767 0")
	u.In, _, _ = route.Step(u.In, api.Input{Kind: api.EvButtonPress, Code: 2, Time: 50})
	u.In, _, _ = route.Step(u.In, api.Input{Kind: api.EvKeyPress, Code: 248, Time: 50})
	_, said = do(t, u, 2, 48, c)
	want(t, "query-pointer", said, "2 answer 48 0 3 2 1 1 513")
	u, _ = do(t, u, 1, 49, a, -32768, 32767)
	want(t, "on the screen", u.In.X == 0 && u.In.Y == 5, true)
	want(t, "no pixel", slices.Equal([]string{u.Show().Row(0), u.Show().Row(1)}, []string{w.Show().Row(0), w.Show().Row(1)}), true)
}
