package widget_test

import (
	"math/rand"
	"strings"
	"testing"

	"glazier/api"
	"glazier/font"
	"glazier/pack"
	"glazier/widget"
)

func rc(x, y, w, h int) api.Rect { return api.Rect{X: x, Y: y, W: w, H: h} }

func want[T comparable](t *testing.T, what string, got, wanted T) {
	t.Helper()
	if got != wanted {
		t.Errorf("%s: %v, wanted %v", what, got, wanted)
	}
}

func tiny() font.Font {
	f, _ := font.Builtin("tiny")
	return f
}

var wrong = []struct {
	w widget.Widget
	e api.Errno
}{
	{widget.Widget{Kind: 4, Text: strings.Repeat("\x00", 256)}, api.ErrKind}, {widget.Widget{Kind: -1}, api.ErrKind}, {widget.Widget{Text: strings.Repeat("\x00", 256)}, api.ErrLong}, {widget.Widget{Text: "a\x7f", On: true}, api.ErrForm}, {widget.Widget{Kind: widget.Bar, Text: "a", On: true}, api.ErrForm},
	{widget.Widget{On: true, Value: 5}, api.ErrState}, {widget.Widget{Kind: widget.Bar, On: true, Value: 101}, api.ErrState}, {widget.Widget{Value: 1, Cursor: 1}, api.ErrRange}, {widget.Widget{Kind: widget.Bar, Value: 101}, api.ErrRange}, {widget.Widget{Kind: widget.Bar, Value: -1}, api.ErrRange}, {widget.Widget{Kind: widget.Button, Cursor: 1, Text: "ab"}, api.ErrRange}, {widget.Widget{Kind: widget.Field, Cursor: 3, Text: "ab"}, api.ErrRange}, {widget.Widget{Kind: widget.Field, Cursor: -1}, api.ErrRange},
}

// P53.1
func TestCheckAndLeast(t *testing.T) {
	for _, x := range wrong {
		want(t, "Check", x.w.Check(), x.e)
		w, h := x.w.Least(tiny())
		_, took := x.w.Key(32, 0)
		_, clicked := x.w.Click(rc(0, 0, 9, 9), 0, 0)
		want(t, "not right", w != 0 || h != 0 || took || clicked || len(x.w.Draw(5, 6, tiny(), rc(0, 0, 9, 9))) > 0, false)
	}
	for _, x := range []struct {
		w    widget.Widget
		f    font.Font
		a, b int
	}{
		{widget.Widget{Kind: widget.Button, Text: "A"}, tiny(), 10, 10}, {widget.Widget{Kind: widget.Label, Text: "AB"}, tiny(), 8, 6}, {widget.Widget{Kind: widget.Field, Text: strings.Repeat("~", 255), Cursor: 255}, tiny(), 1025, 10}, {widget.Widget{Kind: widget.Bar, Value: 100}, tiny(), 24, 6}, {widget.Widget{}, tiny(), 1, 6}, {widget.Widget{}, font.Font{}, 1, 1}, {widget.Widget{Kind: widget.Button, On: true}, font.Font{}, 6, 4},
	} {
		want(t, "Check", x.w.Check(), api.OK)
		w, h := x.w.Least(x.f)
		want(t, "Least", w*1000+h, x.a*1000+x.b)
	}
}

// texts writes requests as texts.
func texts(l []api.Request) string {
	var out []string
	for _, r := range l {
		words := []string{}
		for _, v := range append([]int64{int64(r.Code)}, r.N...) {
			words = append(words, itoa(v))
		}
		if r.B != "" {
			words = append(words, r.B)
		}
		for i, v := range r.L {
			if i == 0 {
				words = append(words, ":")
			}
			words = append(words, itoa(v))
		}
		out = append(out, strings.Join(words, " "))
	}
	return strings.Join(out, "\n")
}

func itoa(v int64) string {
	if v < 0 {
		return "-" + itoa(-v)
	}
	s := string(rune('0' + v%10))
	if v >= 10 {
		s = itoa(v/10) + s
	}
	return s
}

// P53.1, P53.4
func TestDraw(t *testing.T) {
	begin := "21 6 0 0 1 : 3 4 12 10\n20 6 13 3 0 0 0 0\n30 5 6 : 3 4 12 10\n20 6 4 0 0 1 0 0\n"
	frame := "29 5 6 : 3 4 14 4 14 13 3 13 3 4\n"
	end := "21 6 0 0 0"
	for _, x := range []struct {
		w widget.Widget
		s string
	}{
		{widget.Widget{Text: "Ab"}, begin + "36 5 6 3 9 0 Ab\n" + end}, {widget.Widget{}, begin + end}, {widget.Widget{Kind: widget.Button, Text: "A"}, begin + frame + "36 5 6 6 11 0 A\n" + end}, {widget.Widget{Kind: widget.Button, On: true}, begin + frame + "20 6 5 6 0 255 0 0\n30 5 6 : 3 4 12 10\n" + end},
		{widget.Widget{Kind: widget.Field, Text: "ab", Cursor: 1}, begin + frame + "36 5 6 5 11 0 ab\n30 5 6 : 9 6 1 6\n" + end}, {widget.Widget{Kind: widget.Bar, Value: 55}, begin + frame + "30 5 6 : 4 5 5 8\n" + end}, {widget.Widget{Kind: widget.Bar, Value: 9}, begin + frame + end}, {widget.Widget{Kind: widget.Bar, Value: 10}, begin + frame + "30 5 6 : 4 5 1 8\n" + end},
	} {
		l := x.w.Draw(5, 6, tiny(), rc(3, 4, 12, 10))
		want(t, "Draw", texts(l), x.s)
		for _, r := range l {
			want(t, "right", pack.Check(r), api.OK)
		}
	}
	want(t, "a low bar", len((widget.Widget{Kind: widget.Bar, Value: 50}).Draw(5, 6, tiny(), rc(0, 0, 9, 3)))-len((widget.Widget{Kind: widget.Bar, Value: 50}).Draw(5, 6, tiny(), rc(0, 0, 9, 2))), 1)
	for _, r := range []api.Rect{rc(0, 0, 0, 5), rc(0, 0, 5, 0), rc(0, 0, 129, 5), rc(0, 0, 5, 129), rc(4097, 0, 5, 5), rc(0, -4097, 5, 5)} {
		want(t, "none", len(widget.Widget{}.Draw(5, 6, tiny(), r)), 0)
	}
	want(t, "the least rectangle", len(widget.Widget{}.Draw(5, 6, tiny(), rc(0, 0, 1, 1))) > 0 && len(widget.Widget{}.Draw(5, 6, tiny(), rc(-4096, 4096, 128, 128))) > 0, true)
	for _, w := range []widget.Widget{{Kind: widget.Field, Text: strings.Repeat("a", 255), Cursor: 255}, {Kind: widget.Bar, Value: 100}} {
		for _, r := range w.Draw(1<<32-1, 1<<32-1, tiny(), rc(4096, -4096, 1, 1)) {
			want(t, "right", pack.Check(r), api.OK)
		}
	}
}

// P53.2
func TestClick(t *testing.T) {
	r := rc(10, 10, 21, 5)
	b, ok := widget.Widget{Kind: widget.Button}.Click(r, 10, 10)
	want(t, "on", b.On && ok, true)
	b, _ = b.Click(r, 30, 14)
	want(t, "off", b.On, false)
	f, ok := widget.Widget{Kind: widget.Field, Text: "abc"}.Click(r, 12, 12)
	want(t, "Field", f.Cursor == 3 && ok, true)
	for x, v := range map[int]int{10: 0, 30: 100, 20: 50, 11: 5} {
		w, ok := widget.Widget{Kind: widget.Bar, Value: 77}.Click(r, x, 12)
		want(t, "Bar", w.Value == v && ok, true)
	}
	two, _ := widget.Widget{Kind: widget.Bar}.Click(rc(5, 5, 2, 1), 6, 5)
	want(t, "two wide", two.Value, 100)
	w, _ := widget.Widget{Kind: widget.Bar, Value: 7}.Click(rc(5, 5, 1, 1), 5, 5)
	want(t, "narrow", w.Value, 0)
	for _, x := range [][2]int{{9, 10}, {31, 10}, {10, 9}, {10, 15}} {
		w, ok := widget.Widget{Kind: widget.Button}.Click(r, x[0], x[1])
		want(t, "outside", ok || w.On, false)
	}
	_, ok = widget.Widget{Text: "a"}.Click(r, 10, 10)
	want(t, "Label", ok, false)
}

// P53.3
func TestLetter(t *testing.T) {
	for _, x := range []struct {
		code, mods int
		b          byte
	}{{65, 0, 'A'}, {97, 0, 'a'}, {97, 1, 'A'}, {122, 1, 'Z'}, {65, 1, 'A'}, {49, 1, '1'}, {32, 0, ' '}, {126, 1, '~'}, {31, 0, 0}, {127, 0, 0}, {97, 2, 0}, {97, -1, 0}, {97, 4, 0}} {
		b, ok := widget.Letter(x.code, x.mods)
		want(t, "Letter", b == x.b && ok == (x.b != 0), true)
	}
}

// P53.3
func TestKey(t *testing.T) {
	w := widget.Widget{Kind: widget.Field, Text: "ab", Cursor: 1}
	for _, x := range []struct {
		code, mods int
		text       string
		cursor     int
		took       bool
	}{
		{120, 0, "axb", 2, true}, {120, 1, "aXb", 2, true}, {8, 0, "b", 0, true}, {127, 0, "a", 1, true}, {130, 0, "ab", 0, true}, {131, 0, "ab", 2, true}, {132, 0, "ab", 0, true}, {133, 0, "ab", 2, true}, {8, 1, "ab", 1, false}, {13, 0, "ab", 1, false}, {120, 4, "ab", 1, false}, {134, 0, "ab", 1, false},
	} {
		u, ok := w.Key(x.code, x.mods)
		want(t, "Field", u.Text == x.text && u.Cursor == x.cursor && ok == x.took, true)
	}
	for _, code := range []int{8, 127, 130, 131} {
		u, ok := widget.Widget{Kind: widget.Field}.Key(code, 0)
		want(t, "nothing to be done", ok && u == widget.Widget{Kind: widget.Field}, true)
	}
	full := widget.Widget{Kind: widget.Field, Text: strings.Repeat("a", 255), Cursor: 4}
	u, ok := full.Key(97, 0)
	want(t, "full", ok || u != full, false)
	for _, code := range []int{13, 32} {
		u, ok := widget.Widget{Kind: widget.Button}.Key(code, 0)
		_, mods := widget.Widget{Kind: widget.Button}.Key(code, 1)
		want(t, "Button", u.On && ok && !mods, true)
	}
	for v, x := range map[int][2]int{0: {0, 10}, 5: {0, 15}, 95: {85, 100}, 100: {90, 100}} {
		l, ok := widget.Widget{Kind: widget.Bar, Value: v}.Key(130, 0)
		r, ok2 := widget.Widget{Kind: widget.Bar, Value: v}.Key(131, 0)
		want(t, "Bar", ok && ok2 && l.Value == x[0] && r.Value == x[1], true)
	}
	_, ok = widget.Widget{}.Key(97, 0)
	want(t, "Label", ok, false)
}

// P53.4
func TestFollows(t *testing.T) {
	rnd := rand.New(rand.NewSource(1))
	for kind := range 4 {
		w := widget.Widget{Kind: kind}
		for range 500 {
			w, _ = w.Key([]int{8, 13, 32, 97, 127, 130, 131, 132, 133}[rnd.Intn(9)], rnd.Intn(2))
			w, _ = w.Click(rc(0, 0, 9, 9), rnd.Intn(9), rnd.Intn(900))
			want(t, "right", w.Check(), api.OK)
		}
	}
	w := widget.Widget{Kind: widget.Field, Text: "ab", Cursor: 2}
	for _, c := range "Hello there" {
		w, _ = w.Key(int(c), 0)
	}
	want(t, "typed", w.Text, "abHello there")
	for range "Hello there" {
		w, _ = w.Key(8, 0)
	}
	want(t, "erased", w, widget.Widget{Kind: widget.Field, Text: "ab", Cursor: 2})
}
