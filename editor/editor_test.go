package editor_test

import (
	"math/rand"
	"slices"
	"strconv"
	"strings"
	"testing"

	"glazier/api"
	"glazier/band"
	"glazier/editor"
	"glazier/font"
	"glazier/grid"
	"glazier/pack"
	"glazier/paint"
	"glazier/pen"
	"glazier/text"
)

func want[T comparable](t *testing.T, what string, got, wanted T) {
	t.Helper()
	if got != wanted {
		t.Errorf("%s: %v, wanted %v", what, got, wanted)
	}
}

const window, thePen, theFont = int64(1<<20 + 1), int64(1<<20 + 2), int64(1<<20 + 3)

// asked writes requests as texts, and looks whether they are right.
func asked(t *testing.T, l []api.Request) string {
	t.Helper()
	var out []string
	for _, r := range l {
		want(t, "right", pack.Check(r), api.OK)
		words := []string{strconv.Itoa(r.Code)}
		for _, v := range r.N {
			words = append(words, map[int64]string{window: "w", thePen: "p", theFont: "f"}[v])
			if words[len(words)-1] == "" {
				words[len(words)-1] = strconv.Itoa(int(v))
			}
		}
		if r.B != "" {
			words = append(words, "'"+r.B+"'")
		}
		if len(r.L) > 0 {
			words = append(words, "row")
		}
		for _, v := range r.L {
			words = append(words, strconv.Itoa(int(v)))
		}
		out = append(out, strings.Join(words, " "))
	}
	return strings.Join(out, "; ")
}

func of(t *testing.T, w, h int, s string) editor.Editor {
	t.Helper()
	e, l, err := editor.New(1, w, h, s)
	want(t, "New", err, api.OK)
	want(t, "requests", asked(t, l), "23 f 'tiny'; 19 p; 20 p 28 0 0 1 0 f; 1 w 1 0 0 "+strconv.Itoa(w)+" "+strconv.Itoa(h)+" 0 0 0; 7 w 32 0 0 0 0 0 277; 3 w")
	return e
}

func event(code int, n ...int64) api.Out { return api.Out{Kind: api.Event, Code: code, N: n} }

func key(code, mods int) api.Out {
	return event(api.EvKeyPress, window, 0, int64(code), int64(mods)+512, 0, 0, 0, 0, 77)
}

// steps takes messages, and tells what the last one asked.
func steps(t *testing.T, e editor.Editor, l ...api.Out) (editor.Editor, string) {
	t.Helper()
	last := ""
	for _, o := range l {
		u, asks := e.Step(o)
		e, last = u, asked(t, asks)
	}
	return e, last
}

func typed(t *testing.T, e editor.Editor, s string) editor.Editor {
	t.Helper()
	for _, c := range s {
		e, _ = steps(t, e, key(int(c), 0))
	}
	return e
}

// P55.1
func TestNew(t *testing.T) {
	for _, x := range []struct {
		client, w, h int
		s            string
		e            api.Errno
	}{{0, 0, 0, "\x00", api.ErrRange}, {9, 8, 8, "", api.ErrRange}, {1, 3, 8, "", api.ErrSize}, {1, 129, 8, "", api.ErrSize}, {1, 8, 5, "", api.ErrSize}, {1, 8, 129, strings.Repeat("\x00", 4097), api.ErrSize}, {1, 8, 8, strings.Repeat("\x00", 4097), api.ErrLong}, {1, 8, 8, "\x00", api.ErrForm}, {8, 128, 128, strings.Repeat("a", 4096), api.OK}} {
		e, l, err := editor.New(x.client, x.w, x.h, x.s)
		want(t, "New", err, x.e)
		want(t, "New", len(l) == 6 && e.Text() == x.s, err == api.OK)
	}
	var z editor.Editor
	u, l := z.Step(key(65, 0))
	want(t, "zero", len(l) == 0 && u.Text() == "" && u.Cursor() == 0 && grid.Same(u.Picture(), grid.Grid{}), true)
	e := of(t, 8, 6, "ab")
	low, high := e.Marked()
	want(t, "at 0", e.Cursor()+low+high, 0)
}

// P55.2, P55.3, P55.4: the chapter's example.
func TestExample(t *testing.T) {
	e := of(t, 8, 6, "")
	e, l := steps(t, e, key(65, 0), key(66, 0))
	want(t, "AB", e.Text(), "AB")
	want(t, "drawn", l, "36 w p 0 5 1 'B '; 30 w p row 4 5 4 1")
	e, l = steps(t, e, key(122, 4))
	want(t, "undone", e.Text()+" "+l, "A 36 w p 0 5 1 '  '; 30 w p row 0 5 4 1")
	e, _ = steps(t, e, key(121, 4))
	want(t, "done again", e.Text()+strconv.Itoa(e.Cursor()), "AB1")
}

// P55.2: exposures, the mouse, and what is ignored.
func TestEvents(t *testing.T) {
	e := of(t, 12, 20, "abc\ndefgh\ni")
	for _, x := range []struct {
		y, h int64
		rows []int
	}{{0, 6, []int{0}}, {5, 2, []int{0, 1}}, {6, 12, []int{1, 2}}, {18, 9, nil}, {0, 99, []int{0, 1, 2}}, {0, 0, nil}, {3, 0, nil}} {
		_, l := steps(t, e, event(api.EvExpose, window, 0, x.y, 5, x.h, 0))
		var rows []string
		for _, y := range x.rows {
			rows = append(rows, []string{"36 w p 0 5 1 'abc'; 30 w p row 0 5 4 1", "36 w p 0 11 1 'def'", "36 w p 0 17 1 'i  '"}[y])
		}
		want(t, "expose", l, strings.Join(rows, "; "))
	}
	click := func(code int, state, x, y int64) api.Out {
		return event(code, window, 0, 1, state, x, y, 0, 0, 5)
	}
	e, l := steps(t, e, click(api.EvButtonPress, 0, 9, 8))
	low, high := e.Marked()
	want(t, "pressed", e.Cursor() == 6 && low == 6 && high == 6, true)
	want(t, "drawn", l, "36 w p 0 5 1 'abc'; 36 w p 0 11 1 'def'; 30 w p row 8 11 4 1")
	e, l = steps(t, e, click(api.EvMotion, 0, 0, 0))
	want(t, "no button", l+strconv.Itoa(e.Cursor()), "6")
	e, l = steps(t, e, click(api.EvMotion, 255, -5, -5))
	want(t, "no button", l+strconv.Itoa(e.Cursor()), "6")
	v, _ := steps(t, e, click(api.EvMotion, 256, 4, 13))
	want(t, "by the state", v.Cursor(), 11)
	e, l = steps(t, e, click(api.EvMotion, 256, -5, -5))
	low, high = e.Marked()
	want(t, "marked", e.Cursor() == 0 && low == 0 && high == 6, true)
	want(t, "drawn", l, "36 w p 0 5 1 'abc'; 20 p 1 6 0 0 0 0; 30 w p row 0 0 12 6; 20 p 1 3 0 0 0 0; 30 w p row 0 5 4 1; 36 w p 0 11 1 'def'; 20 p 1 6 0 0 0 0; 30 w p row 0 6 8 6; 20 p 1 3 0 0 0 0")
	u, _ := steps(t, e, click(api.EvButtonPress, 0, 1<<40, 1<<40))
	want(t, "far", u.Cursor(), 11)
	for _, o := range []api.Out{event(api.EvButtonPress, window+1, 0, 1, 0, 0, 0, 0, 0, 0), event(api.EvKeyPress, window, 0, 65, 0, 0, 0, 0, 0), event(99), {Kind: api.Fault, Code: 1, N: []int64{window, 1}}, {Kind: 7, Code: 1, N: key(65, 0).N}, event(api.EvKeyRelease, key(65, 0).N...), {Kind: api.Answer, Code: 15, N: []int64{0, 0, 0}, L: []int64{65}}} {
		u, asks := e.Step(o)
		want(t, "ignored", len(asks) == 0 && u.Text() == e.Text() && u.Cursor() == e.Cursor(), true)
	}
}

// P55.3: what keys do.
func TestKeys(t *testing.T) {
	base, _ := steps(t, of(t, 40, 30, "ab\ncdef\ng"), event(api.EvButtonPress, window, 0, 1, 0, 8, 6, 0, 0, 0)) // at 5, in front of e
	for _, x := range []struct {
		keys        []api.Out
		text        string
		cursor      int
		low, high   int
		description string
	}{
		{[]api.Out{key(120, 1)}, "ab\ncdXef\ng", 6, 6, 6, "great letter"}, {[]api.Out{key(13, 0)}, "ab\ncd\nef\ng", 6, 6, 6, "line end"}, {[]api.Out{key(13, 1)}, "ab\ncdef\ng", 5, 5, 5, "no line end"}, {[]api.Out{key(8, 0)}, "ab\ncef\ng", 4, 4, 4, "back"}, {[]api.Out{key(127, 0)}, "ab\ncdf\ng", 5, 5, 5, "delete"}, {[]api.Out{key(8, 1)}, "ab\ncdef\ng", 5, 5, 5, "back by mods"},
		{[]api.Out{key(130, 0)}, "ab\ncdef\ng", 4, 4, 4, "left"}, {[]api.Out{key(131, 1)}, "ab\ncdef\ng", 6, 5, 6, "marked"}, {[]api.Out{key(132, 0)}, "ab\ncdef\ng", 3, 3, 3, "home"}, {[]api.Out{key(133, 1)}, "ab\ncdef\ng", 7, 5, 7, "marked to the end"}, {[]api.Out{key(134, 0)}, "ab\ncdef\ng", 2, 2, 2, "up"}, {[]api.Out{key(135, 0)}, "ab\ncdef\ng", 9, 9, 9, "down"}, {[]api.Out{key(134, 0), key(134, 0)}, "ab\ncdef\ng", 2, 2, 2, "not past the beginning"}, {[]api.Out{key(135, 0), key(135, 0)}, "ab\ncdef\ng", 9, 9, 9, "not past the end"},
		{[]api.Out{key(133, 1), key(120, 0)}, "ab\ncdx\ng", 6, 6, 6, "instead of what is marked"}, {[]api.Out{key(132, 1), key(8, 0)}, "ab\nef\ng", 3, 3, 3, "what is marked goes"}, {[]api.Out{key(132, 1), key(127, 0)}, "ab\nef\ng", 3, 3, 3, "so by delete"}, {[]api.Out{key(97, 4)}, "ab\ncdef\ng", 9, 0, 9, "all"}, {[]api.Out{key(97, 4), key(8, 0)}, "", 0, 0, 0, "all goes"}, {[]api.Out{key(97, 4), key(8, 0), key(8, 0), key(127, 0), key(130, 0)}, "", 0, 0, 0, "nothing there"},
		{[]api.Out{key(97, 4), key(8, 0), key(122, 4)}, "ab\ncdef\ng", 0, 0, 0, "undone"}, {[]api.Out{key(135, 0), key(120, 0), key(122, 4)}, "ab\ncdef\ng", 9, 9, 9, "at the end"}, {[]api.Out{key(122, 4), key(121, 4)}, "ab\ncdef\ng", 5, 5, 5, "nothing to undo"}, {[]api.Out{key(120, 4), key(120, 2), key(136, 0), key(130, 2)}, "ab\ncdef\ng", 5, 5, 5, "no keys"},
	} {
		e, _ := steps(t, base, x.keys...)
		low, high := e.Marked()
		if e.Text() != x.text || e.Cursor() != x.cursor || low != x.low || high != x.high {
			t.Errorf("%s: %q %d %d %d", x.description, e.Text(), e.Cursor(), low, high)
		}
	}
	up, _ := steps(t, base, key(135, 0), key(134, 0))
	want(t, "one line up", up.Cursor(), 4)
	first, _ := steps(t, of(t, 4, 6, "ab"), key(127, 0))
	want(t, "the first byte", first.Text(), "b")
	first, _ = steps(t, of(t, 4, 6, "ab"), key(8, 0))
	want(t, "nothing ahead", first.Text(), "ab")
	full := of(t, 40, 30, strings.Repeat("a", 4096))
	full, _ = steps(t, full, key(120, 0))
	want(t, "full", full.Text(), strings.Repeat("a", 4096))
	full, _ = steps(t, full, key(131, 1), key(120, 0))
	want(t, "room", full.Text(), "x"+strings.Repeat("a", 4095))
}

// P55.2, P55.3, P55.5: selections.
func TestSelections(t *testing.T) {
	e := of(t, 40, 30, "ab\ncd")
	request := event(api.EvSelectionRequest, window, 99, 3, 4, 11, 6)
	_, l := steps(t, e, request)
	want(t, "nothing copied", l, "53 99 0 0 24 row 99 3 4 0 6")
	_, l = steps(t, e, key(99, 4))
	want(t, "nothing marked", l, "")
	e, l = steps(t, e, key(97, 4), key(99, 4))
	want(t, "copied", l, "50 w 3 77")
	_, l = steps(t, e, request)
	want(t, "handed over", l, "13 99 11 4 8 0 row 97 98 10 99 100; 53 99 0 0 24 row 99 3 4 11 6")
	for _, n := range [][]int64{{window, 99, 1, 4, 11, 6}, {window, 99, 3, 5, 11, 6}, {window, 99, 3, 4, 0, 6}} {
		_, l = steps(t, e, event(api.EvSelectionRequest, n...))
		want(t, "refused", l, "53 99 0 0 24 row 99 "+strconv.Itoa(int(n[2]))+" "+strconv.Itoa(int(n[3]))+" 0 6")
	}
	u, _ := steps(t, e, event(api.EvSelectionClear, window, 1, 5))
	_, l = steps(t, u, request)
	want(t, "another selection", strings.HasPrefix(l, "13"), true)
	u, _ = steps(t, e, event(api.EvSelectionClear, window, 3, 5))
	_, l = steps(t, u, request)
	want(t, "cleared", l, "53 99 0 0 24 row 99 3 4 0 6")
	e = of(t, 40, 30, "")
	e, l = steps(t, e, key(118, 4))
	want(t, "asked", l, "52 w 3 4 9 77")
	for _, n := range [][]int64{{window, 1, 4, 9, 5}, {window, 3, 4, 0, 5}, {window + 1, 3, 4, 9, 5}} {
		_, l = steps(t, e, event(api.EvSelectionNotify, n...))
		want(t, "not that one", l, "")
	}
	notify := event(api.EvSelectionNotify, window, 3, 4, 9, 5)
	e, l = steps(t, e, notify)
	want(t, "fetched", l, "15 w 9 4 0 4096 1")
	answer := func(seq int, l ...int64) api.Out {
		return api.Out{Kind: api.Answer, Code: api.ReqGetProperty, Seq: seq, N: []int64{4, 8, 0}, L: l}
	}
	u, _ = steps(t, e, answer(7, 65), answer(9, 65))
	want(t, "not its reply", u.Text(), "")
	u, _ = steps(t, e, answer(8, 65, 10, 66, 0, 127, 300, -1, 126))
	want(t, "put in", u.Text()+strconv.Itoa(u.Cursor()), "A\nB~4")
	v, _ := steps(t, u, answer(1, 65))
	want(t, "no reply of its", v.Text(), u.Text())
	v, _ = steps(t, u, key(97, 4), notify, answer(9, 0))
	want(t, "what is marked stays", v.Text(), u.Text())
	v, _ = steps(t, u, answer(8, 65))
	want(t, "once", v.Text(), u.Text())
	v, _ = steps(t, e, notify, answer(8, 65), answer(9, 66))
	want(t, "the last one", v.Text(), "B")
	v, l = steps(t, e, answer(8, 0, 300))
	want(t, "nothing of a text", v.Text()+l, "")
}

// canvas draws what is asked.
type canvas struct {
	g grid.Grid
	p pen.Pen
}

func (c *canvas) draw(l []api.Request) {
	w, h := c.g.Size()
	all := band.Of(api.Rect{W: w, H: h})
	f, _ := font.Builtin("tiny")
	for _, r := range l {
		switch r.Code {
		case api.ReqChangePen:
			c.p, _ = c.p.Change(int(r.N[1]), r.N[2:]...)
		case api.ReqDrawText:
			c.g = text.Draw(c.g, all, f, int(r.N[2]), int(r.N[3]), r.B, r.N[4] == 1, c.p)
		case api.ReqFillRects:
			c.g = paint.Rects(c.g, all, c.p, api.Rect{X: int(r.L[0]), Y: int(r.L[1]), W: int(r.L[2]), H: int(r.L[3])})
		}
	}
}

// P55.4: letters by opaque text, what is marked by Xor, the cursor by Copy.
func TestPixels(t *testing.T) {
	e := of(t, 9, 7, "A")
	for _, x := range []struct {
		o    api.Out
		rows string
	}{
		{event(api.EvExpose, window, 0, 0, 1, 1, 0), "110000000/101000000/111000000/100000000/110000000/111100000/000000000/"},
		{key(133, 1), "001100000/010100000/000100000/011100000/001100000/111111110/000000000/"},
		{key(133, 0), "110000000/101000000/111000000/100000000/110000000/000011110/000000000/"},
	} {
		e, _ = steps(t, e, x.o)
		rows := ""
		for y := range 7 {
			for _, p := range []byte(e.Picture().Row(y)) {
				rows += string(rune('0' + p))
			}
			rows += "/"
		}
		want(t, "pixels", rows, x.rows)
	}
}

// P55.4, P55.5: whoever draws just what is asked has its picture.
func TestPicture(t *testing.T) {
	rnd := rand.New(rand.NewSource(6))
	for range 8 {
		e, l, _ := editor.New(1, 26, 21, "first line\nsecond\n\nlast of them")
		c := &canvas{g: e.Picture(), p: pen.New()}
		c.draw(l[2:3])
		for range 150 {
			o := key([]int{97, 98, 32, 13, 8, 127, 130, 131, 132, 133, 134, 135, 122, 121, 99}[rnd.Intn(15)], []int{0, 0, 1, 4}[rnd.Intn(4)])
			if rnd.Intn(6) == 0 {
				o = event([]int{api.EvButtonPress, api.EvMotion}[rnd.Intn(2)], window, 0, 1, 256, int64(rnd.Intn(30)), int64(rnd.Intn(30)), 0, 0, 0)
			}
			was := e.Text()
			u, asks := e.Step(o)
			want(t, "as it was", e.Text(), was)
			e = u
			c.draw(asks)
			if !grid.Same(c.g, e.Picture()) {
				t.Fatal("another picture")
			}
			_, all := e.Step(event(api.EvExpose, window, 0, 0, 26, 21, 0))
			seen := func(r api.Request) bool {
				return r.Code == api.ReqFillRects && r.L[3] == 1 && r.L[0] >= 0 && r.L[0] <= 20 && r.L[1] >= 0 && r.L[1] <= 17
			}
			if !slices.ContainsFunc(all, seen) {
				t.Fatal("the cursor isn't seen")
			}
		}
		_, all := e.Step(event(api.EvExpose, window, 0, 0, 26, 21, 0))
		c.draw(all)
		want(t, "all rows", grid.Same(c.g, e.Picture()), true)
	}
	e := typed(t, of(t, 40, 12, ""), "Hello")
	for range "Hello" {
		e, _ = steps(t, e, key(122, 4))
	}
	want(t, "undone step by step", e.Text(), "")
}
