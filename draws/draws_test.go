package draws_test

import (
	"math/rand"
	"slices"
	"strconv"
	"strings"
	"testing"

	"glazier/api"
	"glazier/band"
	"glazier/code"
	"glazier/draws"
	"glazier/font"
	"glazier/grid"
	"glazier/image"
	"glazier/panes"
	"glazier/region"
	"glazier/screen"
	"glazier/sheet"
	"glazier/told"
	"glazier/world"
)

func want[T comparable](t *testing.T, what string, got, wanted T) {
	t.Helper()
	if got != wanted {
		t.Errorf("%s: %v, wanted %v", what, got, wanted)
	}
}

// a of 1 on the root at 1, 1 of 4 by 3, b of 2 above it at 3, 0 of 9 by 9; p a pixmap, q a pen, f a font of 1.
const a, b, p, q, f = int64(1<<20 + 1), int64(2<<20 + 1), int64(1<<20 + 2), int64(1<<20 + 3), int64(1<<20 + 4)

// do asks a request: its fixed numbers, and then its row.
func do(t *testing.T, w world.World, client, c int, text string, n ...int64) (world.World, string) {
	t.Helper()
	form, _ := code.Request(c)
	r := api.Request{Code: c, N: n, B: text}
	if len(n) > len(form.Fixed) {
		r.N, r.L = n[:len(form.Fixed)], n[len(form.Fixed):]
	}
	was := w.Text()
	u, said, ok := draws.Do(w, client, r)
	if !ok {
		u, said, ok = panes.Do(w, client, r)
	}
	want(t, "one of its requests", ok, true)
	want(t, "as it was", w.Text(), was)
	if broken := u.Check(); len(broken) > 0 {
		t.Errorf("%d %v: rules %v", c, n, broken)
	}
	if len(said) > 0 && said[0].Out.Kind == api.Fault {
		want(t, "a fault changes nothing", u.Text(), was)
	}
	return u, told.Sends(said, "1048577", "a", "2097153", "b", "1048578", "p", "1048579", "q", "1048580", "f")
}

func example(t *testing.T, backing int64) world.World {
	t.Helper()
	w, _ := world.New(12, 9, 1)
	w.Clients[1], w.Clients[2] = true, true
	for _, x := range []struct {
		client, code int
		text         string
		n            []int64
	}{
		{1, 1, "", []int64{a, 1, 1, 1, 4, 3, 9, backing, 0}}, {1, 3, "", []int64{a}}, {2, 1, "", []int64{b, 1, 3, 0, 9, 9, 8, 0, 0}}, {2, 3, "", []int64{b}},
		{1, 17, "", []int64{p, 3, 2, 7}}, {1, 19, "", []int64{q}}, {1, 23, "tiny", []int64{f}}, {1, 20, "", []int64{q, 4, 0, 0, 5, 0, 0}},
	} {
		var said string
		w, said = do(t, w, x.client, x.code, x.text, x.n...)
		want(t, "made", said, "")
	}
	return w
}

func shows(w world.World, id int64) string {
	g, _ := w.Canvas.Grid(api.ID(id))
	return strings.ReplaceAll(screen.Text(g), "\n", "/")
}

// P48.1, P48.2, P48.3: what is looked at, in order.
func TestLooks(t *testing.T) {
	w := example(t, 0)
	w.Pens[api.ID(q)], _ = w.Pens[api.ID(q)].Change(16, 0, 0, 0, 0, f)
	x := a + 9
	for i, y := range []struct {
		client, code int
		text         string
		n            []int64
		said         string
	}{
		{1, 17, "", []int64{b + 1, 0, 0, 0}, "1 fault 14 2097154 17"}, {1, 17, "", []int64{p, 0, 0, 0}, "1 fault 14 p 17"}, {1, 17, "", []int64{x, 0, 129, 0}, "1 fault 2 0 17"}, {1, 17, "", []int64{x, 128, 129, 0}, "1 fault 2 129 17"}, {1, 17, "", nil, "1 fault 16 0 17"},
		{2, 18, "", []int64{p}, "2 fault 4 p 18"}, {1, 18, "", []int64{q}, "1 fault 4 q 18"}, {1, 19, "", []int64{q}, "1 fault 14 q 19"}, {1, 19, "", []int64{b + 5}, "1 fault 14 2097158 19"},
		{1, 20, "", []int64{p, 99, 99, 0, 0, 0, 99}, "1 fault 13 p 20"}, {2, 20, "", []int64{q, 99, 99, 0, 0, 0, 99}, "2 fault 13 q 20"}, {1, 20, "", []int64{q, 32, 99, 0, 0, 0, 99}, "1 fault 2 32 20"}, {1, 20, "", []int64{q, 17, 16, 0, 0, 0, 99}, "1 fault 2 16 20"}, {1, 20, "", []int64{q, 16, 16, 0, 0, 0, 99}, "1 fault 7 99 20"}, {1, 20, "", []int64{q, 15, 15, 0, 0, 0, 99}, ""}, {1, 20, "", []int64{q, 16, 0, 0, 0, 0, 99}, "1 fault 7 99 20"}, {1, 20, "", []int64{q, 14, 16, 0, 0, 0, 99}, ""}, {1, 20, "", []int64{q, 16, 16, 0, 0, 0, 0}, ""},
		{1, 21, "", []int64{f, 0, 0, 9, 1}, "1 fault 13 f 21"}, {1, 21, "", []int64{q, 0, 0, 9, 1}, "1 fault 2 9 21"}, {1, 21, "", []int64{q, 0, 0, 1, 1}, "1 fault 8 q 21"}, {1, 21, "", []int64{q, 0, 0, 0, 0, 0, -1, 1}, "1 fault 8 q 21"}, {1, 21, "", append([]int64{q, 0, 0, 1}, slices.Repeat([]int64{-1}, 257*4)...), "1 fault 2 1028 21"}, {1, 21, "", []int64{q, 0, 0, 1, 0, 0, 1, -2, 0, 0, -1, 0}, "1 fault 2 -2 21"},
		{1, 21, "", []int64{q, 0, 0, 1, 0, 0, 0, 0, 5, 5, 32767, 32767}, ""}, {1, 33, "", []int64{p, q, 0, 0, 4096, 1}, ""}, {2, 22, "", []int64{q}, "2 fault 13 q 22"}, {1, 23, "none", []int64{f}, "1 fault 14 f 23"}, {1, 23, "none", []int64{x}, "1 fault 15 1048586 23"}, {1, 24, "", []int64{q}, "1 fault 7 q 24"}, {2, 24, "", []int64{f}, "2 fault 7 f 24"}, {1, 25, "", []int64{p}, "1 fault 7 p 25"},
		{1, 26, "", []int64{p, 0, 0, 0, 0, 9}, "1 fault 3 p 26"}, {2, 26, "", []int64{a, 0, 0, 0, 0, 9}, "2 fault 10 a 26"}, {1, 26, "", []int64{a, 0, 0, 0, 0, 9}, "1 fault 2 9 26"},
		{1, 27, "", []int64{q, f, 99, 0, 0, 0, 0, 1, 1, 9}, "1 fault 9 q 27"}, {1, 27, "", []int64{b, f, 99, 0, 0, 0, 0, 1, 1, 9}, "1 fault 10 b 27"}, {1, 27, "", []int64{a, f, 99, 0, 0, 0, 0, 1, 1, 9}, "1 fault 9 f 27"}, {1, 27, "", []int64{a, b, 99, 0, 0, 0, 0, 1, 1, 9}, "1 fault 10 b 27"}, {1, 27, "", []int64{a, p, 99, 0, 0, 0, 0, 1, 1, 9}, "1 fault 13 99 27"}, {1, 27, "", []int64{a, p, q, 0, 0, 0, 0, 1, 1, 9}, "1 fault 2 9 27"},
		{1, 28, "", []int64{99, 99, 1}, "1 fault 9 99 28"}, {2, 28, "", []int64{p, 99, 1}, "2 fault 10 p 28"}, {1, 28, "", []int64{p, 99, 1}, "1 fault 13 99 28"}, {1, 28, "", []int64{p, q, 1}, "1 fault 8 p 28"}, {1, 29, "", []int64{a, q, 1}, "1 fault 8 a 29"}, {1, 29, "", append([]int64{a, q}, slices.Repeat([]int64{-32768, 0, 32767, 0}, 5)...), "1 fault 2 20 29"},
		{1, 30, "", []int64{p, q, 1, 2}, "1 fault 8 p 30"}, {1, 31, "", []int64{p, q, 2, 1}, "1 fault 2 2 31"}, {1, 31, "", []int64{p, q, 1, 1}, "1 fault 8 p 31"}, {1, 31, "", []int64{p, q, 1, 0, 0, 4097, 0, 0, 5}, "1 fault 2 6 31"}, {1, 31, "", append([]int64{p, q, 0}, make([]int64, 514)...), "1 fault 2 514 31"},
		{1, 32, "", []int64{p, q, 1, 2, 0}, "1 fault 8 p 32"}, {1, 32, "", []int64{p, q, 0, 0, 0, 4097}, "1 fault 2 0 32"}, {1, 33, "", []int64{p, q, 0, 0, 1, 4097, 0, 0, -1, 0}, "1 fault 2 4097 33"}, {1, 33, "", []int64{p, q, 0, 0, 1, 1, 0, 0, -1, 0}, "1 fault 2 -1 33"},
		{1, 34, "", []int64{p, q, 0, 0, 0, 129}, "1 fault 2 0 34"}, {1, 34, "", []int64{p, q, 0, 0, 1, 129}, "1 fault 2 129 34"}, {1, 34, "\x01ab", []int64{p, q, 0, 0, 1, 1}, "1 fault 8 p 34"}, {1, 34, "\x01a", []int64{p, q, 0, 0, 2, 1}, "1 fault 8 p 34"}, {1, 34, "\x00a\x00b", []int64{p, q, 0, 0, 2, 1}, ""},
		{1, 35, "", []int64{q, 0, 0, 0, 129}, "1 fault 9 q 35"}, {1, 35, "", []int64{b, 0, 0, 0, 129}, "1 fault 10 b 35"}, {1, 35, "", []int64{p, 0, 0, 0, 129}, "1 fault 2 0 35"}, {1, 35, "", []int64{p, 0, 0, 1, 129}, "1 fault 2 129 35"}, {1, 35, "", []int64{p, 1, 1, 3, 2}, "1 answer 35 3 2 " + strconv.Quote("\x01\x07\x07\x81\x00")},
		{1, 36, "A", []int64{p, q, 0, 0, 2}, "1 fault 2 2 36"}, {1, 36, "A", []int64{b, q, 0, 0, 2}, "1 fault 10 b 36"}, {1, 36, "A", []int64{p, q, 0, 0, 1}, ""},
	} {
		if _, said := do(t, w, y.client, y.code, y.text, y.n...); said != y.said {
			t.Errorf("%d: request %d %v: %s, wanted %s", i, y.code, y.n, said, y.said)
		}
	}
	w, _ = do(t, w, 1, 24, "", f)
	_, said := do(t, w, 1, 36, "A", p, q, 0, 0, 1)
	want(t, "pens keep its id", said, "1 fault 7 f 36")
	for _, c := range []int{0, 16, 37, 99} {
		u, said, ok := draws.Do(w, 1, api.Request{Code: c})
		want(t, "other code", !ok && len(said) == 0 && u.Text() == w.Text(), true)
	}
	want(t, "Codes", len(draws.Codes()) == 20 && draws.Codes()[0] == 17 && draws.Codes()[19] == 36, true)
}

// P48.2, P48.4: what is made, and freed.
func TestMade(t *testing.T) {
	w := example(t, 0)
	was := w.Text()
	_, said := do(t, w, 1, 25, "", f)
	tiny, _ := font.Builtin("tiny")
	want(t, "query-font", said, "1 answer 25 5 1 row"+strings.Repeat(" 4", 95)+strings.Repeat("", tiny.Ascent()))
	for _, x := range [][]int64{{17, 18, a + 9, 128, 1, 3}, {19, 22, a + 9}, {23, 24, a + 9}} {
		u, said := do(t, w, 1, int(x[0]), map[int64]string{23: "wide"}[x[0]], x[2:]...)
		want(t, "made", said == "" && u.Text() != was, true)
		u, _ = do(t, u, 1, int(x[1]), "", a+9)
		_, has := u.Canvas.Grid(api.ID(a + 9))
		want(t, "no grid", has, false)
		want(t, "freed", u.Text(), was)
	}
	w, _ = do(t, w, 1, 21, "", q, 2, -1, 1, 0, 0, 3, 2)
	x := w.Pens[api.ID(q)]
	want(t, "clip", x.X == 2 && x.Y == -1 && x.Clipped && slices.Equal(x.Clip, []api.Rect{{W: 3, H: 2}}), true)
	w, _ = do(t, w, 1, 21, "", q, 0, 0, 0)
	want(t, "no clip", w.Pens[api.ID(q)].Clipped, false)
	for i := int64(100); w.Held.Len() < 1024; i++ {
		w.Held, _ = w.Held.Add(1, api.ID(1<<20+i), 3)
		w.Pens[api.ID(1<<20+i)] = x
	}
	for c, text := range map[int]string{17: "", 19: "", 23: "tiny"} {
		n := map[int][]int64{17: {a + 9, 1, 1, 1}, 19: {a + 9}, 23: {a + 9}}[c]
		_, said := do(t, w, 1, c, text, n...)
		want(t, "full", said, "1 fault 11 1048586 "+strconv.Itoa(c))
	}
}

// P48.3: the chapter's example, and one of each request.
func TestDrawn(t *testing.T) {
	w := example(t, 0)
	u, said := do(t, w, 1, 30, "", p, q, 1, 0, 2, 1)
	want(t, "fill-rects", said+shows(u, p), "070505/070707/")
	_, said = do(t, u, 1, 35, "", p, 0, 0, 3, 2)
	want(t, "get-image", said, "1 answer 35 3 2 "+strconv.Quote("\x02\x07\x05\x05\x80\x07"))
	for _, x := range []struct {
		code int
		text string
		n    []int64
		rows string
	}{
		{28, "", []int64{p, q, 0, 0, 2, 1, 9, 9, -1, 0}, "050707/070705/"}, {29, "", []int64{p, q, 0, 0, 2, 1}, "050507/070705/"}, {30, "", []int64{p, q, 1, 0, 9, 1, 0, 1, 1, 0}, "070505/070707/"}, {31, "", []int64{p, q, 1, 0, 0, 2, 0, 2, 9, 0, 9}, "050507/050507/"},
		{32, "", []int64{p, q, 0, 0, 3, 3}, "050505/050705/"}, {33, "", []int64{p, q, 0, 0, 3, 3}, "050505/050505/"}, {34, "\x01\x02\x03", []int64{p, q, 1, 1, 2, 1}, "070707/070203/"}, {26, "", []int64{a, 1, 0, 1, 0, 0}, "090909/090909/090909/"},
	} {
		u, said := do(t, w, 1, x.code, x.text, x.n...)
		if x.code == 26 {
			continue
		}
		want(t, strconv.Itoa(x.code), said+shows(u, p), x.rows)
	}
	w, _ = do(t, w, 1, 20, "", q, 16, 0, 0, 0, 0, f)
	u, _ = do(t, w, 1, 36, "A", p, q, 0, 5, 0)
	want(t, "draw-text", shows(u, p), "050507/050705/")
	u, _ = do(t, w, 1, 36, "A", p, q, 0, 5, 1)
	want(t, "opaque", shows(u, p), "050501/050105/")
	// A clipped pen, and a function.
	w, _ = do(t, w, 1, 21, "", q, 1, 0, 1, 0, 0, 1, 9)
	w, _ = do(t, w, 1, 20, "", q, 1, 6, 0, 0, 0, 0)
	u, _ = do(t, w, 1, 30, "", p, q, 0, 0, 9, 9, 0, 1, 9, 9)
	want(t, "clipped, by xor", shows(u, p), "070207/070707/")
	u, _ = do(t, w, 1, 33, "", p, q, 0, 0, 3, 1, 0, 0, 3, 2)
	want(t, "one behind the other", shows(u, p), "070707/070207/")
}

// P48.1, P48.3, P48.4: windows are drawn on where they show, or all over with a backing.
func TestWindows(t *testing.T) {
	for backing, rows := range []string{"05050909/05050909/05050909/", "05050505/05050505/05050505/"} {
		w := example(t, int64(backing))
		u, _ := do(t, w, 1, 30, "", a, q, -5, -5, 99, 99)
		want(t, "where it draws", shows(u, a), rows)
		want(t, "no other grid", shows(u, 1)+shows(u, b)+shows(u, p), shows(w, 1)+shows(w, b)+shows(w, p))
		w.In.Choice, _ = w.In.Choice.Set(2, api.ID(a), api.MaskExpose)
		u.In.Choice = w.In.Choice
		v, said := do(t, u, 1, 26, "", a, 1, 1, 0, 0, 1)
		want(t, "clear-area", said, []string{"2 event 10 a 1 1 1 2 0", "2 event 10 a 1 1 3 2 0"}[backing])
		want(t, "ground", shows(v, a), []string{"05050909/05090909/05090909/", "05050505/05090909/05090909/"}[backing])
		v, said = do(t, u, 1, 26, "", a, 0, 2, 1, 9, 0)
		want(t, "told nobody", said+shows(v, a)[18:], "09"+rows[20:])
		v, _ = do(t, u, 1, 26, "", a, -1, -1, 0, 0, 0)
		want(t, "all of it", shows(v, a), "09090909/09090909/09090909/")
		v, places := draws.Clear(u, api.ID(a), api.Rect{X: -1, Y: -1, W: 2, H: 2})
		v.Clients[7] = true
		want(t, "maps of its own", u.Clients[7], false)
		want(t, "Clear", band.Same(places, band.Of(api.Rect{W: 1, H: 1})) && shows(v, a)[:2] == "09", true)
		for _, id := range []int64{p, 99} {
			v, places = draws.Clear(u, api.ID(id), api.Rect{W: 9, H: 9})
			want(t, "Clear", places.Empty() && v.Text() == u.Text(), true)
		}
		_, places = draws.Clear(u, api.ID(a), api.Rect{W: 0, H: 9})
		want(t, "Clear", places.Empty(), true)
	}
}

// P48.3: copies, with what is missing.
func TestCopies(t *testing.T) {
	w := example(t, 0)
	w, _ = do(t, w, 1, 28, "", a, q, 0, 0, 1, 1)
	u, said := do(t, w, 1, 27, "", a, a, q, 0, 0, 1, 0, 3, 3, 1)
	want(t, "onto itself", said+shows(u, a), "1 event 12 a09050909/09090909/09090909/"[:12]+"05050909/09090909/09090909/")
	u, said = do(t, w, 1, 27, "", a, p, q, 0, 0, 0, 0, 4, 3, 1)
	want(t, "to a pixmap", said+" "+shows(u, p), "1 event 11 p 2 0 1 2 0 050907/090507/")
	u, _ = do(t, w, 1, 27, "", a, p, q, 1, 0, 0, 0, 2, 2, 0)
	want(t, "from 1, 0", shows(u, p), "090707/050707/")
	u, _ = do(t, w, 1, 27, "", a, p, q, 0, 1, 0, 0, 2, 1, 0)
	want(t, "from 0, 1", shows(u, p), "090507/070707/")
	_, said = do(t, w, 1, 27, "", a, p, q, 0, 0, 0, 0, 4, 3, 0)
	want(t, "told nobody", said, "")
	u, said = do(t, w, 1, 27, "", p, a, q, 0, 0, -1, 1, 3, 2, 1)
	want(t, "to a window", said+" "+shows(u, a), "1 event 12 a 05090909/07070909/07070909/")
	u, said = do(t, w, 1, 27, "", p, a, q, 0, 0, 0, 0, 0, 2, 1)
	want(t, "none", said+" "+shows(u, a), "1 event 12 a "+shows(w, a))
}

// P48.4: whatever is drawn, no place changes but those of the drawable's clip.
func TestFollows(t *testing.T) {
	rnd := rand.New(rand.NewSource(4))
	for i := range 40 {
		w := example(t, int64(i%2))
		g, _ := sheet.Make(4, 3, func(x, y int) api.Pixel { return 9 })
		w.Canvas, _ = w.Canvas.Lay(api.ID(a), g)
		w, _ = do(t, w, 1, 20, "", q, 31, int64(rnd.Intn(16)), int64(rnd.Intn(256)), int64(rnd.Intn(256)), int64(rnd.Intn(256)), f)
		if i%3 == 0 {
			w, _ = do(t, w, 1, 21, "", q, 1, 0, 1, int64(rnd.Intn(3)), 0, 2, 2)
		}
		for _, dst := range []int64{a, p} {
			r := func() int64 { return int64(rnd.Intn(9) - 3) }
			s := func() int64 { return int64(1 + rnd.Intn(5)) }
			i, _ := sheet.Make(3, 3, func(_, _ int) api.Pixel { return api.Pixel(rnd.Intn(256)) })
			for _, x := range []struct {
				code int
				text string
				n    []int64
			}{
				{28, "", []int64{dst, q, r(), r(), r(), r()}}, {29, "", []int64{dst, q, r(), r(), r(), r(), r(), r()}}, {30, "", []int64{dst, q, r(), r(), s(), s()}}, {31, "", []int64{dst, q, 0, r(), r(), r(), r(), r(), r()}}, {32, "", []int64{dst, q, r(), r(), s(), s()}}, {33, "", []int64{dst, q, r(), r(), s(), s()}},
				{34, image.Short(image.Pack(i)), []int64{dst, q, r(), r(), 3, 3}}, {36, "Ab", []int64{dst, q, r(), r() + 4, 1}}, {27, "", []int64{a + p - dst, dst, q, r(), r(), r(), r(), s(), s(), 1}},
			} {
				u, said := do(t, w, 1, x.code, x.text, x.n...)
				want(t, "no fault", strings.Contains(said, "fault"), false)
				clip, _ := w.Canvas.Clip(w.In.View, w.Place, api.ID(dst))
				for _, id := range []int64{1, a, b, p} {
					g, _ := w.Canvas.Grid(api.ID(id))
					h, _ := u.Canvas.Grid(api.ID(id))
					d, e := screen.Diff(g, h)
					want(t, "in the clip", e == api.OK && region.Inside(d, clip) && (id == dst || d.Empty()), true)
				}
			}
		}
	}
	want(t, "grids", grid.Same(grid.Grid{}, grid.Grid{}), true)
}
