package serve_test

import (
	"math/rand"
	"slices"
	"strings"
	"testing"

	"glazier/api"
	"glazier/code"
	"glazier/image"
	"glazier/screen"
	"glazier/serve"
	"glazier/sheet"
	"glazier/tell"
	"glazier/told"
	"glazier/world"
)

func want[T comparable](t *testing.T, what string, got, wanted T) {
	t.Helper()
	if got != wanted {
		t.Errorf("%s: %v, wanted %v", what, got, wanted)
	}
}

func joined(t *testing.T, clients ...int) world.World {
	t.Helper()
	w, _ := world.New(20, 16, 1)
	for _, c := range clients {
		var e api.Errno
		w, e = serve.Join(w, c)
		want(t, "Join", e, api.OK)
	}
	return w
}

// do asks a request: its fixed numbers, and then its row.
func do(t *testing.T, w world.World, client, c int, text string, n ...int64) (world.World, string) {
	t.Helper()
	form, _ := code.Request(c)
	r := api.Request{Code: c, N: n, B: text}
	if len(n) > len(form.Fixed) {
		r.N, r.L = n[:len(form.Fixed)], n[len(form.Fixed):]
	}
	was := w.Text()
	u, said := serve.Do(w, client, r)
	check(t, u, said)
	want(t, "as it was", w.Text(), was)
	if len(said) > 0 && said[0].Out.Kind == api.Fault {
		want(t, "a fault changes nothing", u.Text(), was)
	}
	return u, told.Sends(said)
}

// check looks at the rules, and at what is said.
func check(t *testing.T, w world.World, said []api.Send) {
	t.Helper()
	if broken := w.Check(); len(broken) > 0 {
		t.Fatalf("rules %v", broken)
	}
	for _, s := range said {
		if e := tell.Check(s.Out); e != api.OK {
			t.Errorf("said: %v: %d", s, e)
		}
	}
}

const a, b, f, p, q, o = int64(1<<20 + 1), int64(2<<20 + 1), int64(1<<20 + 2), int64(1<<20 + 3), int64(1<<20 + 4), int64(1<<20 + 5)

// P50.1
func TestJoin(t *testing.T) {
	w := joined(t, 1, 2)
	for c, e := range map[int]api.Errno{0: api.ErrRange, 9: api.ErrRange, -1: api.ErrRange, 2: api.ErrTwice} {
		u, f := serve.Join(w, c)
		want(t, "Join", f == e && u.Text() == w.Text(), true)
	}
	want(t, "Open", serve.Open(w, 1) && serve.Open(w, 2) && !serve.Open(w, 3) && !serve.Open(w, 0), true)
	w.Closed = 2
	want(t, "closed", !serve.Open(w, 1) && serve.Open(w, 2), true)
	u, said, e := serve.Input(w, api.Input{Kind: 9})
	want(t, "Input", e == api.ErrKind && len(said) == 0 && u.Text() == w.Text(), true)
	w.In.Choice, _ = w.In.Choice.Set(1, 1, api.MaskKeyPress)
	u, said, e = serve.Input(w, api.Input{Kind: api.EvKeyPress, Code: 65, Time: 5})
	want(t, "Input", e == api.OK && told.Sends(said) == "1 event 1 1 0 65 0 10 8 10 8 5" && u.In.Now == 5, true)
}

// P50.2
func TestDo(t *testing.T) {
	w := joined(t, 1, 2, 3)
	for _, x := range []struct {
		client, code int
		text         string
		n            []int64
		said         string
	}{
		{4, 99, "", nil, ""}, {0, 58, "", nil, ""}, {1, 99, "", nil, "1 fault 1 99 99"}, {1, 0, "", nil, "1 fault 1 0 0"}, {1, 55, "", nil, "1 fault 16 0 55"}, {1, 58, "a", nil, "1 fault 16 0 58"}, {1, 11, "title", []int64{0}, "1 answer 11 8"}, {1, 10, "", []int64{1}, "1 answer 10 0"}, {1, 25, "", []int64{5}, "1 fault 7 5 25"}, {1, 38, "", nil, "1 answer 38 1 1"},
		{1, 55, "", []int64{99}, "1 fault 3 99 55"}, {1, 55, "", []int64{1}, "1 fault 3 1 55"}, {1, 56, "", nil, "1 fault 10 1 56"}, {1, 57, "", nil, ""}, {1, 58, "", nil, ""},
	} {
		u, said := do(t, w, x.client, x.code, x.text, x.n...)
		want(t, "said", said, x.said)
		want(t, "nothing changes", u.Text(), w.Text())
	}
	w, _ = do(t, w, 2, 1, "", b, 1, 0, 0, 2, 2, 0, 0, 0)
	_, said := do(t, w, 1, 55, "", b)
	want(t, "not granted", said, "1 fault 10 2097153 55")
	w, _ = do(t, w, 3, 7, "", 1, 32, 0, 0, 0, 0, 0, 2048+1024)
	u, said := do(t, w, 3, 55, "", b)
	want(t, "kill-client", said == "3 event 14 1 2097153" && !u.Clients[2] && !u.In.Tree.Has(api.ID(b)), true)
	u, _ = do(t, w, 3, 56, "")
	want(t, "grab-server", u.Closed, 3)
	v, said := do(t, u, 2, 2, "", b)
	want(t, "not open", said == "" && v.Text() == u.Text(), true)
	u, _ = do(t, u, 3, 57, "")
	want(t, "ungrab-server", u.Closed, 0)
}

// P50.3: what dies with whom, and in which order it is told.
func TestLeave(t *testing.T) {
	w := joined(t, 1, 2, 3)
	w, _ = do(t, w, 3, 7, "", 1, 32, 0, 0, 0, 0, 0, 1024) // 3 is told of the root's kids
	w, _ = do(t, w, 2, 1, "", b, 1, 0, 0, 4, 4, 9, 0, 0)  // a window of 2
	w, _ = do(t, w, 1, 7, "", 1, 32, 0, 0, 0, 0, 0, 2048) // 1 manages
	w, _ = do(t, w, 1, 1, "", a, 1, 3, 2, 6, 6, 5, 0, 1)  // a frame of 1
	w, _ = do(t, w, 1, 3, "", a)                          //
	w, _ = do(t, w, 1, 54, "", b, 1)                      // saved
	w, _ = do(t, w, 1, 6, "", b, a, 1, 1)                 // framed
	w, _ = do(t, w, 1, 1, "", f, a, 0, 0, 1, 1, 6, 0, 0)  // a window in the frame
	w, _ = do(t, w, 1, 17, "", p, 2, 2, 3)                //
	w, _ = do(t, w, 1, 19, "", q)                         //
	w, _ = do(t, w, 1, 23, "tiny", o)                     //
	w, _ = do(t, w, 1, 50, "", a, 1, 0)                   // a claim
	w, _ = do(t, w, 2, 52, "", b, 1, 4, 9, 0)             // that is asked for
	w, _ = do(t, w, 1, 41, "", a, 1, 0, 0, 4, 0, 0)       //
	w, _ = do(t, w, 1, 43, "", a, 0, 1, 0, 0)             //
	w, _ = do(t, w, 1, 56, "")                            //
	w.In.Choice, _ = w.In.Choice.Set(2, api.ID(b), api.MaskKeyPress|api.MaskStructure)
	w.In.Choice, _ = w.In.Choice.Set(2, 1, api.MaskButtonPress)
	w, said, _ := serve.Input(w, api.Input{Kind: api.EvButtonPress, Code: 1, Time: 9})
	want(t, "frozen", len(said), 0)
	u, said := serve.Leave(w, 1)
	check(t, u, said)
	want(t, "told", told.Sends(said), "2 event 3 1 0 1 0 10 8 10 8 9; 2 event 24 2097153 1 4 0 0; 2 event 20 2097153 2097153 1 4 3 0; 3 event 20 1 2097153 1 4 3 0; 2 event 15 2097153 2097153 0; 3 event 15 1 2097153 0; 3 event 16 1 1048577; 3 event 14 1 1048577")
	gone := u.Text()
	want(t, "nothing is left", strings.Contains(gone, "10485") || strings.Contains(gone, "client 1\n") || strings.Contains(gone, " 1 2048"), false)
	x, _ := u.Place.Box(api.ID(b))
	want(t, "saved", x.X == 4 && x.Y == 3 && x.Mapped && !u.Clients[1] && u.Clients[2] && u.Closed == 0, true)
	_, has := u.Canvas.Grid(api.ID(p))
	want(t, "no grid", has, false)
	u.Clients[7] = true
	want(t, "maps of its own", w.Clients[7], false)
	want(t, "no save set", len(u.Saves.Of(1)), 0)
	u2, _ := serve.Join(u, 8)
	want(t, "client 8", u2.Clients[8] && !u.Clients[8], true)
	v, said := serve.Leave(u, 1)
	want(t, "not there", len(said) == 0 && v.Text() == u.Text(), true)
	// First those windows that lie in no other one of its.
	w = joined(t, 1, 3)
	w, _ = do(t, w, 1, 1, "", o, 1, 0, 0, 5, 5, 0, 0, 0)
	w, _ = do(t, w, 1, 3, "", o)
	w, _ = do(t, w, 1, 1, "", a, o, 0, 0, 1, 1, 0, 0, 0)
	w, _ = do(t, w, 1, 3, "", a)
	w.In.Choice, _ = w.In.Choice.Set(3, api.ID(o), api.MaskKids)
	_, said = serve.Leave(w, 1)
	want(t, "the outer one", told.Sends(said), "3 event 14 1048581 1048577")
	w = joined(t, 1, 2)
	w, _ = do(t, w, 1, 1, "", a, 1, 0, 0, 1, 1, 0, 0, 0)
	w, _ = serve.Leave(w, 1)
	want(t, "example", slices.Equal(w.In.Tree.Below(1), []api.ID{1}) && w.Clients[2], true)
}

// ask makes some request, mostly of things that there are.
func ask(rnd *rand.Rand, client int) api.Request {
	c := 1 + rnd.Intn(58)
	form, _ := code.Request(c)
	r := api.Request{Code: c}
	own := int64(client<<20 + 1 + rnd.Intn(9))
	if rnd.Intn(5) == 0 {
		own = int64(1+rnd.Intn(3))<<20 + int64(1+rnd.Intn(9))
	}
	for i, name := range code.Fields(c) {
		v := int64(rnd.Intn(14))
		switch name {
		case "id", "parent", "src", "dst", "pen", "sibling", "font", "requestor":
			v = int64(client<<20 + 1 + rnd.Intn(9))
			if i == 0 {
				v = own
			}
			if rnd.Intn(4) == 0 {
				v = 1
			}
		case "x", "y", "sx", "sy", "dx", "dy":
			v -= 3
		case "time":
			v = 0
		case "events":
			v = int64(rnd.Intn(8192))
		case "mask":
			v = int64(rnd.Intn(64))
		case "override", "backing", "owner", "pointer", "keyboard", "expose", "shaped", "clipped", "opaque", "only", "pass", "remove", "stop":
			v = int64(rnd.Intn(2))
		case "name", "type", "target", "property", "selection":
			v = int64(1 + rnd.Intn(10))
		case "format":
			v = []int64{8, 16, 32}[rnd.Intn(3)]
		}
		if form.Fixed[i] > 0 && v < 0 {
			v = 0
		}
		r.N = append(r.N, v)
	}
	if form.Bytes {
		r.B = []string{"tiny", "title", "wide", "Hi"}[rnd.Intn(4)]
		if c == api.ReqPutImage {
			g, _ := sheet.Make(max(1, int(r.N[4])), max(1, int(r.N[5])), func(x, y int) api.Pixel { return api.Pixel(rnd.Intn(256)) })
			r.B = image.Short(image.Pack(g))
		}
	}
	if form.List != 0 {
		for range 4 * rnd.Intn(4) {
			r.L = append(r.L, int64(rnd.Intn(12)))
		}
	}
	return r
}

// P50.4: whatever is asked, comes in, joins or dies.
func TestFollows(t *testing.T) {
	for seed := range int64(14) {
		rnd := rand.New(rand.NewSource(seed))
		w := joined(t, 1, 2, 3)
		var said []api.Send
		for step := range 400 {
			client := 1 + rnd.Intn(3)
			switch n := rnd.Intn(60); {
			case n == 0:
				w, said = serve.Leave(w, client)
				check(t, w, said)
				want(t, "nothing held", len(w.Held.Of(client)), 0)
			case n < 3:
				w, _ = serve.Join(w, client)
			case n < 16:
				i := api.Input{Kind: 1 + rnd.Intn(5), Code: 1 + rnd.Intn(3), X: rnd.Intn(24) - 2, Y: rnd.Intn(20) - 2, Time: uint32(step)}
				if i.Kind == api.EvMotion {
					i.Code = 0
				}
				w, said, _ = serve.Input(w, i)
			default:
				r := ask(rnd, client)
				closed := !serve.Open(w, client)
				was := w.Text()
				u, l := serve.Do(w, client, r)
				want(t, "as it was", w.Text(), was)
				if closed {
					want(t, "not open", u.Text() == was && len(l) == 0, true)
				}
				w, said = u, l
			}
			check(t, w, said)
			if step%40 == 0 {
				for x := range 20 {
					for y := range 16 {
						p, _ := screen.Look(w.In.Tree, w.Place, w.Canvas, x, y)
						want(t, "the screen", w.Show().At(x, y), p)
					}
				}
			}
			if t.Failed() {
				t.Fatalf("seed %d, step %d", seed, step)
			}
		}
		for c := 1; c <= 3; c++ {
			w, _ = serve.Leave(w, c)
		}
		want(t, "nothing is left", w.Held.Len() == 0 && len(w.In.Tree.Below(1)) == 1 && len(w.Clients) == 0 && len(w.Claims.All()) == 0 && len(w.In.Passive.All()) == 0, true)
	}
}
