package term_test

import (
	"math/rand"
	"strings"
	"testing"

	"glazier/api"
	"glazier/band"
	"glazier/font"
	"glazier/grid"
	"glazier/pack"
	"glazier/paint"
	"glazier/pen"
	"glazier/term"
	"glazier/text"
)

func want[T comparable](t *testing.T, what string, got, wanted T) {
	t.Helper()
	if got != wanted {
		t.Errorf("%s: %v, wanted %v", what, got, wanted)
	}
}

const window = int64(2<<20 + 1)

func of(t *testing.T, columns, rows int) term.Term {
	t.Helper()
	x, l, e := term.New(2, columns, rows)
	want(t, "New", e == api.OK && len(l) == 6, true)
	for _, r := range l {
		want(t, "right", pack.Check(r), api.OK)
	}
	return x
}

func event(code int, n ...int64) api.Out { return api.Out{Kind: api.Event, Code: code, N: n} }

func key(code, mods int64) api.Out {
	return event(api.EvKeyPress, window, 0, code, mods, 0, 0, 0, 0, 0)
}

// drawn tells the rows that requests draw, with their letters and where the cursor is.
func drawn(t *testing.T, l []api.Request) string {
	t.Helper()
	var out []string
	for _, r := range l {
		want(t, "right", pack.Check(r), api.OK)
		want(t, "window and pen", r.N[0] == window && r.N[1] == window+1, true)
		if r.Code == api.ReqDrawText {
			want(t, "opaque", r.N[2] == 0 && r.N[4] == 1 && r.N[3]%6 == 5, true)
			out = append(out, string(rune('0'+r.N[3]/6))+"'"+r.B+"'")
		} else {
			want(t, "cursor", r.Code == api.ReqFillRects && r.L[1]%6 == 5 && r.L[2] == 4 && r.L[3] == 1, true)
			out = append(out, "@"+string(rune('0'+r.L[0]/4))+string(rune('0'+r.L[1]/6)))
		}
	}
	return strings.Join(out, " ")
}

// P57.1
func TestNew(t *testing.T) {
	for _, x := range []struct {
		client, columns, rows int
		e                     api.Errno
	}{{0, 0, 0, api.ErrRange}, {9, 1, 1, api.ErrRange}, {1, 0, 1, api.ErrSize}, {1, 33, 1, api.ErrSize}, {1, 1, 0, api.ErrSize}, {1, 1, 22, api.ErrSize}, {8, 32, 21, api.OK}} {
		y, l, e := term.New(x.client, x.columns, x.rows)
		w, _ := y.Cells().Size()
		want(t, "New", e == x.e && (len(l) == 6) == (e == api.OK) && (w == x.columns) == (e == api.OK || x.columns == 0), true)
	}
	_, l, _ := term.New(2, 3, 2)
	for i, n := range [][]int64{{window + 2}, {window + 1}, {window + 1, 28, 0, 0, 1, 0, window + 2}, {window, 1, 0, 0, 12, 12, 0, 0, 0}, {window, 32, 0, 0, 0, 0, 0, 257}, {window}} {
		r := api.Request{Code: []int{23, 19, 20, 1, 7, 3}[i], N: n}
		if i == 0 {
			r.B = "tiny"
		}
		want(t, "request", pack.Same(l[i], r), true)
	}
	z := term.Term{}
	u, l := z.Write("abc")
	v, m := z.Step(event(api.EvKeyPress, 0, 0, 65, 0, 0, 0, 0, 0, 0))
	_, s := v.Typed()
	want(t, "zero", len(l)+len(m) == 0 && s == "" && u.Cells().Text() == "" && grid.Same(z.Picture(), grid.Grid{}), true)
}

// P57.2
func TestStep(t *testing.T) {
	x := of(t, 3, 4)
	x, _ = x.Write("a\nb")
	for _, y := range []struct {
		y, h int64
		rows string
	}{{0, 6, "0'a  '"}, {6, 1, "1'b  ' @11"}, {5, 2, "0'a  ' 1'b  ' @11"}, {12, 99, "2'   ' 3'   '"}, {24, 5, ""}, {3, 0, ""}} {
		_, l := x.Step(event(api.EvExpose, window, 0, y.y, 1, y.h, 0))
		want(t, "expose", drawn(t, l), y.rows)
	}
	for _, o := range []api.Out{key(104, 0), key(105, 1), key(13, 0), key(8, 0), key(9, 256), key(13, 1), key(8, 4), key(200, 0), key(65, 2), {Kind: api.Event, Code: api.EvKeyPress, N: key(65, 0).N[:8]}, {Kind: api.Answer, Code: api.EvKeyPress, N: key(65, 0).N}, event(api.EvKeyRelease, key(65, 0).N...), event(api.EvKeyPress, window+1, 0, 65, 0, 0, 0, 0, 0, 0), key(33, 513)} {
		u, l := x.Step(o)
		want(t, "no requests", len(l), 0)
		x = u
	}
	u, s := x.Typed()
	_, again := u.Typed()
	want(t, "Typed", s+again, "hI\n\b\t!")
	for range 1005 {
		u, _ = u.Step(key(97, 0))
	}
	_, s = u.Typed()
	want(t, "at most", len(s), 1000)
}

// P57.3: the chapter's example, and which rows are drawn.
func TestWrite(t *testing.T) {
	x := of(t, 2, 1)
	y1, l := x.Write("A")
	rows := ""
	for y := range 6 {
		for _, p := range []byte(y1.Picture().Row(y)) {
			rows += string(rune('0' + p))
		}
		rows += "/"
	}
	want(t, "pixels", rows, "11000000/10100000/11100000/10000000/11000000/00001111/")
	small, _, e := term.New(1, 1, 1)
	small, _ = small.Write(strings.Repeat("a\n", 200))
	want(t, "kept lines", e == api.OK && small.Cells().Kept() == 100, true)
	want(t, "example", drawn(t, l), "0'A ' @10")
	y := of(t, 3, 3)
	for _, z := range [][2]string{{"ab", "0'ab ' @20"}, {"", ""}, {"c", "0'abc'"}, {"\n", "0'abc' 1'   ' @01"}, {"\x1b[9B", "1'   ' 2'   ' @02"}, {"x\n", "0'   ' 1'x  '"}, {"\x00", ""}} {
		u, l := y.Write(z[0])
		want(t, "Write", drawn(t, l), z[1])
		y = u
	}
	want(t, "kept", y.Cells().Kept() == 1 && y.Cells().Back(1) == "abc", true)
}

// P57.4
func TestPicture(t *testing.T) {
	rnd := rand.New(rand.NewSource(6))
	x := of(t, 9, 5)
	f, _ := font.Builtin("tiny")
	p := pen.New()
	p.Fore, p.Back = 1, 0
	g := x.Picture()
	all := band.Of(api.Rect{W: 36, H: 30})
	draw := func(l []api.Request) {
		for _, r := range l {
			if r.Code == api.ReqDrawText {
				g = text.Draw(g, all, f, int(r.N[2]), int(r.N[3]), r.B, true, p)
			} else {
				g = paint.Rects(g, all, p, api.Rect{X: int(r.L[0]), Y: int(r.L[1]), W: int(r.L[2]), H: int(r.L[3])})
			}
		}
	}
	for range 400 {
		u, l := x.Write([]string{"a", "bc ", "\n", "\t", "\x1b[2D", "\x1b[A", "\x1b[K", "\x1b[2J", "\x1b[3;4H"}[rnd.Intn(9)])
		x = u
		draw(l)
		if !grid.Same(g, x.Picture()) {
			t.Fatal("another picture")
		}
	}
	_, l := x.Step(event(api.EvExpose, window, 0, 0, 99, 99, 0))
	draw(l)
	want(t, "all rows", grid.Same(g, x.Picture()), true)
}
