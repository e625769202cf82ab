package link_test

import (
	"math/rand"
	"slices"
	"strings"
	"testing"

	"glazier/api"
	"glazier/link"
)

func want[T comparable](t *testing.T, what string, got, wanted T) {
	t.Helper()
	if got != wanted {
		t.Errorf("%s: %v, wanted %v", what, got, wanted)
	}
}

func of(t *testing.T, most int) link.End {
	t.Helper()
	e, err := link.New(most)
	want(t, "New", err, api.OK)
	return e
}

func send(t *testing.T, e link.End, b string) link.End {
	t.Helper()
	e, err := e.Send(b)
	want(t, "Send", err, api.OK)
	return e
}

func got(t *testing.T, e link.End, l ...string) link.End {
	t.Helper()
	for _, p := range l {
		var err api.Errno
		e, err = e.Got(p)
		want(t, "Got", err, api.OK)
	}
	return e
}

// P60.1, P60.2: the chapter's example.
func TestExample(t *testing.T) {
	e := send(t, of(t, 2), "abc")
	want(t, "Quiet", e.Quiet(), false)
	u, l := e.Due()
	want(t, "Due", slices.Equal(l, []string{link.Packet(0, 0, 0, "ab"), link.Packet(0, 1, 0, "c")}), true)
	want(t, "first", l[0], "\x00\x00\x00\x00\x00\x00\x00\x00\x00\x00\x02ab")
	u2, again := u.Due()
	want(t, "nothing more", len(again) == 0 && !u2.Quiet(), true)
	o := got(t, of(t, 2), l[1])
	_, b := o.Read()
	want(t, "not yet", b, "")
	o = got(t, o, l[0])
	o, b = o.Read()
	_, c := o.Read()
	want(t, "Read", b+c, "abc")
	o, l = o.Due()
	want(t, "an ack", len(l) == 1 && l[0] == link.Packet(1, 0, 2, "") && o.Quiet(), true)
	u = got(t, u, l[0])
	want(t, "Quiet", u.Quiet(), true)
	_, l = u.Due()
	want(t, "none", len(l), 0)
	sent, _ := e.Due()
	sent.Tick()
	_, l = sent.Due()
	want(t, "values", len(l), 0)
	u, l = e.Tick().Due()
	want(t, "Tick", len(l), 2)
	_, l = u.Tick().Due()
	want(t, "Tick", len(l), 2)
	_, l = o.Cut().Due()
	want(t, "Cut", len(l) == 1 && l[0] == link.Packet(1, 0, 2, "") && !o.Cut().Quiet(), true)
	_, l = u.Cut().Due()
	want(t, "Cut", len(l), 2)
	_, l = of(t, 1).Cut().Due()
	want(t, "Cut", len(l), 1)
}

// P60.1: how much may be sent, and how much is under way.
func TestRoom(t *testing.T) {
	for _, n := range []int{0, -1, 1025} {
		_, err := link.New(n)
		want(t, "New", err, api.ErrSize)
	}
	var z link.End
	_, err := z.Send("a")
	_, err2 := z.Got("")
	zz, l := z.Cut().Due()
	_, b := zz.Read()
	want(t, "zero", err == api.ErrState && err2 == api.ErrState && len(l) == 0 && b == "" && z.Quiet() && z.Cut().Quiet(), true)
	e := send(t, of(t, 1024), strings.Repeat("a", 65536))
	u, err := e.Send("b")
	want(t, "full", err, api.ErrFull)
	_, err = u.Send("")
	want(t, "nothing", err, api.OK)
	e, l = e.Due()
	want(t, "under way", len(l), 16)
	e = got(t, e, link.Packet(1, 0, 3, ""))
	e, l = e.Due()
	want(t, "room", len(l) == 3 && l[0] == link.Packet(0, 16, 0, strings.Repeat("a", 1024)), true)
	_, err = e.Send(strings.Repeat("b", 3*1024))
	want(t, "acknowledged", err, api.OK)
	_, err = e.Send(strings.Repeat("b", 3*1024+1))
	want(t, "not more", err, api.ErrFull)
	e = got(t, e, link.Packet(1, 0, 1, ""))
	_, l = e.Tick().Due()
	want(t, "an elder ack", len(l), 16)
	// The last piece has what is there.
	f := send(t, send(t, of(t, 4), "abcde"), "fg")
	_, l = f.Due()
	want(t, "pieces", slices.Equal(l, []string{link.Packet(0, 0, 0, "abcd"), link.Packet(0, 1, 0, "e"), link.Packet(0, 2, 0, "fg")}), true)
}

// P60.3: what is refused, in order.
func TestGot(t *testing.T) {
	e := got(t, send(t, of(t, 2), "abc"), link.Packet(0, 0, 0, "x"), link.Packet(0, 3, 1, "z"))
	for i, x := range []struct {
		p   string
		err api.Errno
	}{
		{"\x02123456789", api.ErrShort}, {"\x02\x00\x00\x00\x00\x00\x00\x00\x00\x00\x05", api.ErrKind}, {"\x00\x00\x00\x00\x00\x00\x00\x00\x09\x00\x02a", api.ErrForm}, {"\x00\x00\x00\x00\x00\x00\x00\x00\x09\x00\x00", api.ErrForm}, {"\x00\x00\x00\x00\x00\x00\x00\x00\x09\x04\x01" + strings.Repeat("a", 1025), api.ErrForm},
		{"\x01\x00\x00\x00\x00\x00\x00\x00\x09\x00\x01a", api.ErrForm}, {"\x01\x00\x00\x00\x01\x00\x00\x00\x09\x00\x00", api.ErrForm}, {link.Packet(1, 0, 3, ""), api.ErrRange}, {link.Packet(1, 0, 1<<24, ""), api.ErrRange}, {link.Packet(0, 1<<24, 0, "a"), api.ErrRange}, {link.Packet(0, 1, 3, "a"), api.ErrRange}, {link.Packet(0, 17, 0, "a"), api.ErrRange}, {link.Packet(0, 16, 0, "a"), api.OK}, {link.Packet(1, 0, 2, ""), api.OK}, {link.Packet(0, 0, 0, "x"), api.OK}, {link.Packet(0, 1, 2, strings.Repeat("a", 1024)), api.OK},
	} {
		u, err := e.Got(x.p)
		if err != x.err {
			t.Errorf("%d: %d, wanted %d", i, err, x.err)
		}
		_, l := u.Due()
		_, m := e.Due()
		want(t, "as it was", err == api.OK || slices.Equal(l, m), true)
	}
	// Of two of one number the first one; an elder one is passed over, and acknowledged.
	u := got(t, e, link.Packet(0, 3, 1, "Z"), link.Packet(0, 2, 2, "y"), link.Packet(0, 1, 2, "w"))
	u, b := u.Read()
	want(t, "Read", b, "xwyz")
	u, l := u.Due()
	want(t, "ack", slices.Equal(l, []string{link.Packet(1, 0, 4, "")}), true)
	u = got(t, u, link.Packet(0, 1, 2, "w"))
	_, l = u.Due()
	_, b = u.Read()
	want(t, "elder", slices.Equal(l, []string{link.Packet(1, 0, 4, "")}) && b == "", true)
}

// P60.4
func TestPacket(t *testing.T) {
	want(t, "Packet", link.Packet(0, 1<<32-1, 258, "a")+link.Packet(1, 0, 5, ""), "\x00\xff\xff\xff\xff\x00\x00\x01\x02\x00\x01a\x01\x00\x00\x00\x00\x00\x00\x00\x05\x00\x00")
	for _, p := range []string{link.Packet(2, 0, 0, "a"), link.Packet(-1, 0, 0, "a"), link.Packet(0, -1, 0, "a"), link.Packet(0, 1<<32, 0, "a"), link.Packet(0, 0, -1, "a"), link.Packet(0, 0, 1<<32, "a"), link.Packet(1, 0, 0, "a"), link.Packet(1, 1, 0, ""), link.Packet(0, 0, 0, ""), link.Packet(0, 0, 0, strings.Repeat("a", 1025))} {
		want(t, "none", p, "")
	}
}

// P60.5: a line that loses, doubles and turns about.
func TestLine(t *testing.T) {
	rnd := rand.New(rand.NewSource(2))
	for range 30 {
		ends := [2]link.End{of(t, 1+rnd.Intn(9)), of(t, 1+rnd.Intn(9))}
		var sent, read [2]string
		var line [2][]string
		for range 300 {
			i := rnd.Intn(2)
			switch rnd.Intn(5) {
			case 0:
				b := strings.Repeat(string(rune('a'+rnd.Intn(26))), rnd.Intn(40))
				ends[i], sent[i] = send(t, ends[i], b), sent[i]+b
			case 1:
				var l []string
				ends[i], l = ends[i].Due()
				line[1-i] = append(line[1-i], l...)
			case 2, 3:
				if n := len(line[i]); n > 0 {
					at := rnd.Intn(n)
					p := line[i][at]
					if rnd.Intn(3) > 0 {
						line[i] = slices.Delete(line[i], at, at+1)
					}
					if rnd.Intn(4) > 0 {
						ends[i], _ = ends[i].Got(p)
					}
				}
			case 4:
				ends[i] = ends[i].Tick()
			}
			var b string
			ends[i], b = ends[i].Read()
			read[i] += b
			want(t, "a beginning", strings.HasPrefix(sent[1-i], read[i]), true)
		}
		rounds := 0
		for ; rounds < 1000 && !(ends[0].Quiet() && ends[1].Quiet()); rounds++ {
			for i := range 2 {
				var l []string
				ends[i], l = ends[i].Tick().Due()
				ends[1-i] = got(t, ends[1-i], l...)
			}
		}
		for i := range 2 {
			_, b := ends[i].Read()
			want(t, "all has come", read[i]+b, sent[1-i])
		}
	}
}
