package font_test

import (
	"slices"
	"strings"
	"testing"

	"glazier/api"
	"glazier/font"
)

func want[T comparable](t *testing.T, what string, got, wanted T) {
	t.Helper()
	if got != wanted {
		t.Errorf("%s: %v, wanted %v", what, got, wanted)
	}
}

// P26.2, P26.3
func TestBuiltin(t *testing.T) {
	f, ok := font.Builtin("tiny")
	want(t, "tiny", ok && f.Ascent() == 5 && f.Descent() == 1, true)
	want(t, "A", slices.Equal(f.Glyph('A').Rows, []int{3, 5, 7, 1, 3, 0}) && f.Glyph('A').W == 4, true)
	want(t, "Width", f.Width("AB")*100+f.Width(""), 800)
	want(t, "Text", strings.HasPrefix(f.Text(), "font 5 1\n32 4 0 0 0 0 0 0\n33 4 3 5 7 1 3 0\n"), true)
	w, ok := font.Builtin("wide")
	want(t, "wide", ok && w.Ascent() == 7 && w.Descent() == 2 && w.Glyph('A').W == 6 && w.Glyph(' ').W == 5, true)
	want(t, "wide A", slices.Equal(w.Glyph('A').Rows, []int{325 % 32, 462 % 32, 599 % 32, 736 % 32, 873 % 32, 1010 % 32, 1147 % 32, 1284 % 32, 1421 % 32}), true)
	want(t, "blank", slices.Equal(w.Glyph(' ').Rows, make([]int, 9)), true)
	for _, b := range []byte{0, 31, 127, 255} {
		want(t, "others", slices.Equal(w.Glyph(b).Rows, w.Glyph('?').Rows), true)
	}
	w.Glyph('A').Rows[0] = 99
	want(t, "new rows", w.Glyph('A').Rows[0], 325%32)
	want(t, "Width", w.Width("ab\x00")+w.Width("c"), w.Width("ab?c"))
	z, ok := font.Builtin("Tiny")
	want(t, "none", !ok && z.Text() == "" && z.Width("abc") == 0 && z.Glyph('a').W == 0 && len(z.Glyph('a').Rows) == 0 && z.Ascent()+z.Descent() == 0, true)
}

func text(head string, change map[int]string) string {
	l := []string{head}
	for b := 32; b <= 126; b++ {
		l = append(l, strings.Replace("B 2 3 1", "B", itoa(b), 1))
	}
	for n, s := range change {
		l[n-1] = s
	}
	return strings.Join(l, "\n") + "\n"
}

func itoa(n int) string {
	s := string(rune('0' + n%10))
	if n >= 10 {
		s = itoa(n/10) + s
	}
	return s
}

// P26.1, P26.4
func TestParse(t *testing.T) {
	for _, name := range []string{"tiny", "wide"} {
		f, _ := font.Builtin(name)
		g, n, e := font.Parse(f.Text())
		want(t, name, n == 0 && e == api.OK && g.Text() == f.Text(), true)
	}
	good := text("font 2 0", nil)
	f, n, e := font.Parse(good)
	want(t, "good", n == 0 && e == api.OK && f.Text() == good, true)
	for _, x := range []struct {
		s string
		n int
		e api.Errno
	}{
		{"", 0, api.ErrEmpty}, {strings.Repeat("\n", 65537), 0, api.ErrLong}, {strings.Repeat("\n", 65536), 1, api.ErrForm}, {"font 16 0\n", 2, api.ErrShort}, {"font 0 16\n", 2, api.ErrShort}, {"font 1 0\n", 2, api.ErrShort}, {"font 0 17\n", 1, api.ErrRange}, {"font 2 0", 1, api.ErrShort}, {"\n", 1, api.ErrForm}, {"fonts 2 0\n", 1, api.ErrForm}, {"font 2\n", 1, api.ErrForm}, {"font 2 0 0\n", 1, api.ErrForm},
		{"font  2 0\n", 1, api.ErrForm}, {"font 2 0 \n", 1, api.ErrForm}, {"font 02 0\n", 1, api.ErrForm}, {"font +2 0\n", 1, api.ErrForm}, {"font 100000 0\n", 1, api.ErrForm}, {"font 99999 0\n", 1, api.ErrRange}, {"font 0 0\n", 1, api.ErrRange}, {"font 9 8\n", 1, api.ErrRange}, {"font 17 0\n", 1, api.ErrRange},
		{"font 2 0\n", 2, api.ErrShort}, {good[:len(good)-1], 96, api.ErrShort}, {good + "x", 97, api.ErrLong}, {good + "\n", 97, api.ErrLong},
		{text("font 2 0", map[int]string{3: "33 2"}), 3, api.ErrForm}, {text("font 2 0", map[int]string{3: "33 2 3 x"}), 3, api.ErrForm}, {text("font 2 0", map[int]string{3: "34 17 3"}), 3, api.ErrOrder}, {text("font 2 0", map[int]string{3: "33 17 3"}), 3, api.ErrRange},
		{text("font 2 0", map[int]string{3: "33 2 9"}), 3, api.ErrSize}, {text("font 2 0", map[int]string{3: "33 2 9 9 9"}), 3, api.ErrSize}, {text("font 2 0", map[int]string{3: "33 2 4 0"}), 3, api.ErrValue}, {text("font 2 0", map[int]string{3: "33 0 0 0"}), 0, api.OK}, {text("font 0 2", map[int]string{96: "126 16 65535 0"}), 0, api.OK},
	} {
		f, n, e := font.Parse(x.s)
		want(t, "line", n, x.n)
		want(t, "error", e, x.e)
		want(t, "font", f.Text() == "", e != api.OK)
		want(t, "as it was", e != api.OK || f.Text() == x.s, true)
	}
}
