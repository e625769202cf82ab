package cells_test

import (
	"math/rand"
	"strings"
	"testing"

	"glazier/api"
	"glazier/cells"
)

func want[T comparable](t *testing.T, what string, got, wanted T) {
	t.Helper()
	if got != wanted {
		t.Errorf("%s: %v, wanted %v", what, got, wanted)
	}
}

func of(t *testing.T, columns, rows, kept int, b string) cells.Cells {
	t.Helper()
	c, e := cells.New(columns, rows, kept)
	want(t, "New", e, api.OK)
	return c.Write(b)
}

func state(c cells.Cells) string {
	x, y := c.Cursor()
	return c.Text() + "@" + string(rune('0'+x)) + string(rune('0'+y))
}

// P56.1: the chapter's example, and each byte.
func TestWrite(t *testing.T) {
	c := of(t, 4, 2, 5, "abcde\nf")
	want(t, "example", state(c), "e\nf\n@11")
	want(t, "kept", c.Kept() == 1 && c.Back(1) == "abcd" && c.Back(0) == "" && c.Back(2) == "" && c.Row(0) == "e   " && c.Row(2) == "" && c.Row(-1) == "", true)
	c = c.Write("\x1b[H\x1b[2J")
	want(t, "example", state(c), "\n\n@00")
	for _, x := range [][2]string{
		{"abcd", "abcd\n\n\n@40"}, {"abcde", "abcd\ne\n\n@11"}, {"abcd\n", "abcd\n\n\n@01"}, {"ab\rc", "cb\n\n\n@10"}, {"ab\bc", "ac\n\n\n@20"}, {"\b\ba", "a\n\n\n@10"}, {"abcd\bx", "abcx\n\n\n@40"}, {"a\tb", "a  b\n\n\n@40"}, {"abcd\t", "abcd\n\n\n@40"}, {"ab\x0cc", "c\n\n\n@10"}, {"abcdefghijkl\x0c", "\n\n\n@00"}, {"a b", "a b\n\n\n@30"}, {"abcdef\x1b[H x", " xcd\nef\n\n@20"},
		{"\x00\x7f\x80\xffa", "a\n\n\n@10"}, {"1\n2\n3\n4", "2\n3\n4\n@12"}, {"\x1b[2;3Hx", "\n  x\n\n@31"}, {"\x1b[9;9Hx", "\n\n   x\n@42"}, {"\x1b[;2Hx", " x\n\n\n@20"}, {"\x1b[0;0Hx", "x\n\n\n@10"}, {"\x1b[Bx", "\nx\n\n@11"}, {"\x1b[9Bx", "\n\nx\n@12"}, {"\x1b[2Bx\x1b[Ay", "\n y\nx\n@21"}, {"\x1b[9Ax", "x\n\n\n@10"},
		{"\x1b[Cx", " x\n\n\n@20"}, {"\x1b[9Cx", "   x\n\n\n@40"}, {"abcd\x1b[Cx", "abcx\n\n\n@40"}, {"abc\x1b[2Dx", "axc\n\n\n@20"}, {"a\x1b[9Dx", "x\n\n\n@10"}, {"abcd\x1b[Dx", "abcx\n\n\n@40"}, {"abcd\x1b[Bx", "abcd\n\nx\n@12"},
		{"abcdefg\x1b[1;2H\x1b[J", "a\n\n\n@10"}, {"abcdefgh\x1b[2;2H\x1b[1J", "\n  gh\n\n@11"}, {"abcdefgh\x1b[1;2H\x1b[2J", "\n\n\n@10"}, {"abcdefgh\x1b[2;2H\x1b[K", "abcd\ne\n\n@11"}, {"abcdefgh\x1b[2;2H\x1b[1K", "abcd\n  gh\n\n@11"}, {"abcdefgh\x1b[2;2H\x1b[2K", "abcd\n\n\n@11"}, {"abcd\x1b[K", "abc\n\n\n@40"}, {"abcd\x1b[1K", "\n\n\n@40"}, {"abcd\x1b[3K\x1b[3J", "abcd\n\n\n@40"},
		{"\x1bab", "b\n\n\n@10"}, {"\x1b\x1b[Bx", "[Bx\n\n\n@30"}, {"\x1b[1\x1b[x", "[x\n\n\n@20"}, {"\x1b[1\nx", "x\n\n\n@10"}, {"\x1b[mx\x1b[~y\x1b[[z", "xyz\n\n\n@30"}, {"\x1b[99999999999999999999;9Hx", "\n\n   x\n@42"}, {"\x1b[2;3;1;1Hx", "\n  x\n\n@31"}, {"\x1b[1 Ax", "Ax\n\n\n@20"},
	} {
		want(t, strings.ReplaceAll(x[0], "\x1b", "^"), state(of(t, 4, 3, 5, x[0])), x[1])
	}
	for _, x := range [][3]int{{0, 1, 0}, {1, 0, 0}, {129, 1, 0}, {1, 65, 0}, {1, 1, -1}, {1, 1, 1001}} {
		c, e := cells.New(x[0], x[1], x[2])
		w, h := c.Write("abc").Size()
		want(t, "New", e == api.ErrSize && w+h == 0 && c.Text() == "", true)
	}
	c = of(t, 2, 1, 2, "a\nb\nc\nd")
	want(t, "the newest ones", c.Kept() == 2 && c.Back(1) == "c " && c.Back(2) == "b ", true)
	want(t, "none", of(t, 2, 1, 0, "a\nb\nc").Kept(), 0)
	want(t, "tabs", state(of(t, 20, 1, 0, "123456789\tx~\t\ty")), "123456789       x~ y\n@D0")
	want(t, "many digits", state(of(t, 20, 12, 0, "\x1b[11;12Hx")), "\n\n\n\n\n\n\n\n\n\n           x\n\n@<:")
	w, h := of(t, 128, 64, 1000, "").Size()
	want(t, "Size", w*100+h, 12864)
}

// P56.2, P56.4
func TestResize(t *testing.T) {
	c := of(t, 4, 3, 5, "abcd\nef\ng")
	for _, x := range []struct {
		columns, rows int
		state         string
		kept          int
	}{{4, 3, "abcd\nef\ng\n@12", 0}, {2, 2, "ef\ng\n@11", 1}, {6, 1, "g\n@10", 2}, {6, 4, "abcd\nef\ng\n\n@12", 0}, {1, 3, "a\ne\ng\n@12", 0}} {
		u, e := c.Resize(x.columns, x.rows)
		want(t, "Resize", e == api.OK && state(u) == x.state && u.Kept() == x.kept && len(u.Row(0)) == x.columns, true)
	}
	u, _ := c.Resize(2, 2)
	want(t, "kept as it left", u.Back(1), "abcd")
	u, _ = of(t, 4, 3, 5, "abcd").Resize(2, 1)
	want(t, "x at most columns", state(u), "ab\n@20")
	u, _ = of(t, 4, 3, 5, "a\nb\nc\x1b[1;3H").Resize(4, 1)
	want(t, "cut off below", state(u)+string(rune('0'+u.Kept())), "a\n@200")
	for _, x := range [][2]int{{0, 1}, {129, 1}, {1, 0}, {1, 65}} {
		u, e := c.Resize(x[0], x[1])
		want(t, "Resize", e == api.ErrSize && state(u) == state(c), true)
	}
	_, e := cells.Cells{}.Resize(4, 4)
	want(t, "zero", e, api.ErrSize)
	u, _ = c.Write("\x1b[2").Resize(9, 9)
	want(t, "a command goes on", state(u.Write("Dx")), "abcd\nef\nx\n\n\n\n\n\n\n@12")
	up, _ := c.Resize(9, 9)
	down, _ := up.Resize(4, 3)
	want(t, "there and back", state(down), state(c))
}

// P56.3, P56.4
func TestFollows(t *testing.T) {
	rnd := rand.New(rand.NewSource(3))
	for range 60 {
		var b strings.Builder
		for range 200 {
			b.WriteString([]string{"a", "b ", "\n", "\t", "\b", "\r", "\x1b[", "2", ";", "H", "J", "K", "A", "B", "C", "D", "\x1b", "\x0c", "\xff"}[rnd.Intn(19)])
		}
		whole := of(t, 7, 5, 9, b.String())
		c, rest := of(t, 7, 5, 9, ""), b.String()
		for rest != "" {
			n := 1 + rnd.Intn(min(len(rest), 9))
			was := c.Text()
			d := c.Write(rest[:n])
			want(t, "as it was", c.Text(), was)
			c, rest = d, rest[n:]
			x, y := c.Cursor()
			want(t, "on the screen", x >= 0 && x <= 7 && y >= 0 && y < 5, true)
		}
		want(t, "the same", state(c) == state(whole) && c.Kept() == whole.Kept() && c.Back(1) == whole.Back(1), true)
		for y := range 5 {
			for _, l := range c.Row(y) {
				want(t, "letters", l >= 32 && l <= 126, true)
			}
		}
	}
}
