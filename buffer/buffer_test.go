package buffer_test

import (
	"math"
	"math/rand"
	"strings"
	"testing"

	"glazier/api"
	"glazier/buffer"
)

func want[T comparable](t *testing.T, what string, got, wanted T) {
	t.Helper()
	if got != wanted {
		t.Errorf("%s: %v, wanted %v", what, got, wanted)
	}
}

func of(t *testing.T, s string) buffer.Buffer {
	t.Helper()
	b, e := buffer.New(s)
	want(t, "New", e, api.OK)
	return b
}

// P54.1
func TestChanges(t *testing.T) {
	for s, e := range map[string]api.Errno{strings.Repeat("\x00", 65537): api.ErrLong, "a\x1f": api.ErrForm, "\x7f": api.ErrForm, "\r": api.ErrForm, "\x80": api.ErrForm, " ~\n": api.OK, strings.Repeat("a", 65536): api.OK} {
		b, got := buffer.New(s)
		want(t, "New", got, e)
		want(t, "New", b.Text() == s, e == api.OK)
	}
	b := of(t, "ab")
	for _, x := range []struct {
		at   int
		s    string
		e    api.Errno
		text string
	}{{9, "", api.ErrEmpty, "ab"}, {3, "\x00", api.ErrRange, "ab"}, {-1, "\x00", api.ErrRange, "ab"}, {0, "\x00" + strings.Repeat("a", 65536), api.ErrForm, "ab"}, {0, strings.Repeat("a", 65535), api.ErrLong, "ab"}, {0, "x", api.OK, "xab"}, {1, "x\n", api.OK, "ax\nb"}, {2, "x", api.OK, "abx"}} {
		c, e := b.Insert(x.at, x.s)
		want(t, "Insert", e == x.e && c.Text() == x.text && b.Text() == "ab", true)
	}
	_, e := b.Insert(0, strings.Repeat("a", 65534))
	want(t, "Insert", e, api.OK)
	for _, x := range []struct {
		from, to int
		e        api.Errno
		text     string
	}{{-1, 1, api.ErrRange, "ab"}, {2, 1, api.ErrRange, "ab"}, {0, 3, api.ErrRange, "ab"}, {1, 1, api.ErrEmpty, "ab"}, {0, 1, api.OK, "b"}, {0, 2, api.OK, ""}, {1, 2, api.OK, "a"}} {
		c, e := b.Delete(x.from, x.to)
		want(t, "Delete", e == x.e && c.Text() == x.text && b.Text() == "ab", true)
	}
	z, e := buffer.Buffer{}.Insert(0, "a")
	want(t, "zero", buffer.Buffer{}.Text() == "" && e == api.OK && z.Text() == "a", true)
}

// P54.2, P54.4
func TestUndo(t *testing.T) {
	b := of(t, "ab")
	_, ok := b.Undo()
	_, again := b.Redo()
	want(t, "nothing", ok || again, false)
	b, _ = b.Insert(1, "x")
	b, _ = b.Delete(0, 1)
	want(t, "example", b.Text(), "xb")
	b, _ = b.Undo()
	want(t, "example", b.Text(), "axb")
	b, _ = b.Undo()
	want(t, "example", b.Text(), "ab")
	b, ok = b.Redo()
	want(t, "example", ok && b.Text() == "axb", true)
	c, _ := b.Insert(0, "q")
	_, ok = c.Redo()
	_, still := b.Redo()
	want(t, "forgotten", ok || !still, false)
	d, _ := b.Insert(9, "q")
	_, ok = d.Redo()
	want(t, "a refused change forgets nothing", ok, true)
	e := of(t, "")
	for range 300 {
		e, _ = e.Insert(e.Len(), "a")
	}
	n := 0
	for {
		f, ok := e.Undo()
		if !ok {
			break
		}
		e = f
		n++
	}
	want(t, "256 steps", n*1000+e.Len(), 256044)
	rnd := rand.New(rand.NewSource(1))
	g, texts, at := of(t, "start"), []string{"start"}, 0
	for range 2000 {
		switch rnd.Intn(4) {
		case 0:
			if h, ok := g.Undo(); ok {
				g, at = h, at-1
			}
		case 1:
			if h, ok := g.Redo(); ok {
				g, at = h, at+1
			}
		default:
			h, err := g.Insert(rnd.Intn(g.Len()+1), "xy\n")
			if rnd.Intn(2) == 0 && g.Len() > 2 {
				from := rnd.Intn(g.Len() - 1)
				h, err = g.Delete(from, from+1+rnd.Intn(g.Len()-from))
			}
			if err == api.OK {
				g, at = h, at+1
				texts = append(texts[:at], g.Text())
			}
		}
		if g.Text() != texts[at] {
			t.Fatal("the text at that step")
		}
	}
}

// P54.3, P54.4
func TestLines(t *testing.T) {
	b := of(t, "a\nbc\n")
	want(t, "Lines", b.Lines() == 3 && b.Len() == 5 && b.Line(0) == "a" && b.Line(1) == "bc" && b.Line(2) == "" && b.Line(3) == "" && b.Line(-1) == "", true)
	want(t, "empty", buffer.Buffer{}.Lines(), 1)
	for at, x := range map[int][2]int{-5: {0, 0}, 0: {0, 0}, 1: {0, 1}, 2: {1, 0}, 3: {1, 1}, 4: {1, 2}, 5: {2, 0}, 99: {2, 0}, math.MinInt: {0, 0}, math.MaxInt: {2, 0}} {
		l, c := b.Spot(at)
		want(t, "Spot", l == x[0] && c == x[1], true)
		if at >= 0 && at <= 5 {
			want(t, "Place", b.Place(l, c), at)
		}
	}
	for _, x := range [][3]int{{-1, 1, 1}, {0, 9, 1}, {1, -9, 2}, {1, 9, 4}, {9, 0, 5}, {9, 9, 5}, {math.MaxInt, math.MaxInt, 5}, {math.MinInt, math.MinInt, 0}} {
		want(t, "Place", b.Place(x[0], x[1]), x[2])
	}
}
