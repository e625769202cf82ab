package proxy_test

import (
	"math/rand"
	"slices"
	"strings"
	"testing"

	"glazier/api"
	"glazier/link"
	"glazier/pack"
	"glazier/proxy"
	"glazier/stream"
	"glazier/tell"
)

func want[T comparable](t *testing.T, what string, got, wanted T) {
	t.Helper()
	if got != wanted {
		t.Errorf("%s: %v, wanted %v", what, got, wanted)
	}
}

func of(t *testing.T, server bool) proxy.Half {
	t.Helper()
	h, e := proxy.New(server, 0, 16, 64)
	want(t, "New", e, api.OK)
	return h
}

func near(t *testing.T, h proxy.Half, b string) proxy.Half {
	t.Helper()
	h, e := h.Near(b)
	want(t, "Near", e, api.OK)
	return h
}

// over brings all that is due over, until both are quiet.
func over(t *testing.T, a, b proxy.Half) (proxy.Half, proxy.Half) {
	t.Helper()
	for range 2000 {
		if a.Quiet() && b.Quiet() {
			return a, b
		}
		var l, m []string
		a, l = a.Tick().Due()
		b, m = b.Tick().Due()
		for _, p := range l {
			b, _ = b.Got(p)
		}
		for _, p := range m {
			a, _ = a.Got(p)
		}
	}
	t.Fatal("never quiet")
	return a, b
}

func request(code int, text string, n ...int64) string {
	b, _ := pack.Put(0, api.Request{Code: code, N: n, B: text})
	return b
}

// P61.1, P61.2, P61.3: the chapter's example, both ways.
func TestExample(t *testing.T) {
	a, b := of(t, false), of(t, true)
	a = near(t, a, "l\x01\x00\x00\x3a\x00\x01\x00")
	a, l := a.Due()
	want(t, "two messages", slices.Equal(l, []string{link.Packet(0, 0, 0, "\x00\x00\x00\x05\x00l\x01\x00\x00"), link.Packet(0, 1, 0, "\x00\x00\x00\x05\x00\x3a\x00\x01\x00")}), true)
	for _, p := range l {
		var e api.Errno
		b, e = b.Got(p)
		want(t, "Got", e, api.OK)
	}
	b, out := b.Out()
	_, again := b.Out()
	want(t, "Out", out+again, "l\x01\x00\x00\x3a\x00\x01\x00")
	m, _ := tell.Put(0, api.Out{Kind: 2, Code: 12, N: []int64{5}})
	b = near(t, b, m+m[:5])
	a, b = over(t, a, b)
	_, out = a.Out()
	want(t, "the other way", out, m)
	want(t, "Quiet", a.Quiet() && b.Quiet() && !a.Dead() && !b.Dead(), true)
	a = near(t, a, request(58, ""))
	_, l = a.Due()
	want(t, "alike", l[0], link.Packet(0, 2, 1, "\x00\x00\x00\x02\x01\x00"))
}

// P61.1, P61.2, P61.3: what is refused.
func TestRefused(t *testing.T) {
	for _, x := range []struct {
		order, kept, most int
		e                 api.Errno
	}{{2, 0, 0, api.ErrOrder}, {-1, 1, 1, api.ErrOrder}, {1, 0, 0, api.ErrRange}, {1, 65, 1, api.ErrRange}, {1, 64, 0, api.ErrSize}, {1, 64, 1025, api.ErrSize}, {1, 64, 1024, api.OK}} {
		h, e := proxy.New(true, x.order, x.kept, x.most)
		_, f := h.Near("")
		want(t, "New", e == x.e && (f == api.ErrState) == (e != api.OK), true)
	}
	var z proxy.Half
	_, e := z.Near("a")
	_, f := z.Got("a")
	zz, l := z.Tick().Due()
	_, out := zz.Out()
	want(t, "zero", e == api.ErrState && f == api.ErrState && len(l) == 0 && out == "" && z.Quiet() && !z.Dead(), true)
	h := of(t, false)
	_, e = h.Got("short")
	want(t, "Got", e, api.ErrShort)
	// More than the link takes: nothing of it.
	big := strings.Repeat("\x0b\x00\x00\x40"+strings.Repeat("x", 65532), 1)
	h = near(t, h, stream.Begin(0))
	u, e := h.Near(request(58, "") + big)
	_, l = u.Due()
	want(t, "full", e == api.ErrFull && len(l) == 1, true)
	u, e = h.Near("\x0b\x00\x00\x30" + strings.Repeat("x", 0x3000*4-4))
	want(t, "not full", e, api.OK)
	_, e = u.Near("\x0b\x00\x00\x10" + strings.Repeat("y", 0x1000*4-4))
	want(t, "together", e, api.ErrFull)
}

// P61.2, P61.3: what a half dies of, and what stood ahead of it.
func TestDead(t *testing.T) {
	noop := request(58, "")
	event, _ := tell.Put(0, api.Out{Kind: 2, Code: 12, N: []int64{5}})
	long, _ := tell.Put(0, api.Out{Kind: 1, Code: 12, B: strings.Repeat("a", 65532)})
	for _, x := range []struct {
		server bool
		b      string
		sent   int
	}{{false, "what", 0}, {false, "B\x01\x00\x00" + noop, 0}, {false, "l\x01\x00\x00" + noop + "\x3a\x00\x00\x00" + noop, 2}, {false, "l\x01\x00\x00\x3a\x00\x01\x40", 1}, {true, "\x03\x00\x00\x00\x00\x00\x00\x00", 0}, {true, event + "\x02\x63\x00\x00\x03\x00\x00\x00", 1}, {true, event + long, 1}} {
		h := near(t, of(t, x.server), x.b)
		u, l := h.Due()
		want(t, "dead", h.Dead() && len(l) == x.sent, true)
		_, e := h.Near("")
		_, f := h.Got(link.Packet(1, 0, 0, ""))
		_, again := u.Tick().Due()
		want(t, "nothing more", e == api.ErrDead && f == api.ErrDead && len(again) == x.sent && h.Quiet() == (x.sent == 0), true)
	}
	for _, b := range []string{"what", "l\x01\x00\x00" + noop} {
		h := near(t, of(t, false), b[:3])
		want(t, "not yet", h.Dead(), false)
	}
	for _, x := range [][2]string{{"\x00\x02\x00\x01", ""}, {"\x00\x00\x00\x02\x00a\x00\x00\x00\x02\x01\x05\x00\x00\x00\x02\x00b", "a"}, {"\x00\x00\x00\x00", ""}, {"\x00\x00\x00\x01\x09", ""}, {"\x00\x00\x00\x02\x00a\xff\xff\xff\xff", "a"}} {
		h, e := of(t, true).Got(link.Packet(0, 0, 0, x[0]))
		_, out := h.Out()
		want(t, "far", e == api.OK && h.Dead() && out == x[1], true)
	}
	h, _ := of(t, true).Got(link.Packet(0, 0, 0, "\x00\x02\x00\x00"))
	want(t, "as long as may be", h.Dead(), false)
}

// P61.4: in whatever parts bytes come, whatever is lost.
func TestLine(t *testing.T) {
	rnd := rand.New(rand.NewSource(3))
	b := stream.Begin(0)
	for i := range 60 {
		b += request(11, strings.Repeat("name", 1+i%9), 0) + request(58, "")
	}
	whole := near(t, of(t, false), b)
	_, all := whole.Due()
	for range 20 {
		h, s, out := of(t, false), of(t, true), ""
		for rest := b; rest != ""; {
			n := 1 + rnd.Intn(min(40, len(rest)))
			h = near(t, h, rest[:n])
			rest = rest[n:]
		}
		_, l := h.Due()
		want(t, "the same is sent", slices.Equal(l, all), true)
		for range 400 {
			var l, m []string
			h, l = h.Tick().Due()
			for range rnd.Intn(9) {
				s, _ = s.Got(l[rnd.Intn(len(l))])
				s, m = s.Due()
				if rnd.Intn(2) == 0 {
					h, _ = h.Got(append(m, "x")[0])
				}
			}
			var p string
			s, p = s.Out()
			out += p
			want(t, "a beginning", strings.HasPrefix(b, out), true)
			if len(l) == 0 || h.Quiet() {
				break
			}
		}
		h, s = over(t, h, s)
		_, p := s.Out()
		want(t, "in calm all", out+p, b)
	}
}
