package stream_test

import (
	"strings"
	"testing"

	"glazier/api"
	"glazier/pack"
	"glazier/stream"
)

func want[T comparable](t *testing.T, what string, got, wanted T) {
	t.Helper()
	if got != wanted {
		t.Errorf("%s: %v, wanted %v", what, got, wanted)
	}
}

func feed(s stream.Stream, parts ...string) (stream.Stream, []stream.Item) {
	var all []stream.Item
	for _, p := range parts {
		var l []stream.Item
		s, l = s.Feed(p)
		all = append(all, l...)
	}
	return s, all
}

// P6.1
func TestFeed(t *testing.T) {
	s, l := stream.Stream{}.Feed("B\x01\x00\x00\x3a\x00\x00\x01\x63\x00\x00\x01\x3a")
	want(t, "items", len(l), 2)
	want(t, "first", l[0].Code == 58 && l[0].Fault == 0 && l[0].Request.Code == 58, true)
	want(t, "second", l[1].Code == 99 && l[1].Fault == api.BadRequest && pack.Same(l[1].Request, api.Request{}), true)
	want(t, "Rest", s.Rest(), 1)
	o, ok := s.Order()
	want(t, "Order", o == 1 && ok, true)
	_, l = feed(s, "\x01\x00\x01")
	want(t, "second byte", len(l) == 1 && l[0].Fault == api.BadLength && l[0].Code == 58, true)
	want(t, "Begin", stream.Begin(0)+stream.Begin(1)+stream.Begin(2)+stream.Begin(-1), "l\x01\x00\x00B\x01\x00\x00")
	var zero stream.Stream
	_, ok = zero.Order()
	want(t, "zero", ok || zero.Dead() || zero.Rest() != 0, false)
	s, _ = zero.Feed("l\x01")
	_, ok = s.Order()
	want(t, "Rest ahead of a beginning", s.Rest() == 2 && !ok, true)
}

// P6.1, P6.2: what kills a stream, and what stood ahead of it.
func TestDead(t *testing.T) {
	for _, b := range []string{"x\x01\x00\x00", "l\x00\x00\x00\x3a\x00\x01\x00", "l\x01\x00\x00\x3a\x00\x00\x00", "l\x01\x00\x00\x3a\x00\x01\x40more", "l\x01\x00\x00\x3a\x00\x01\x00\x00\x00\x00\x00"} {
		s, l := stream.Stream{}.Feed(b)
		want(t, "Dead", s.Dead() && s.Rest() == 0, true)
		want(t, "items", len(l), map[bool]int{true: 1}[strings.HasPrefix(b, "l\x01\x00\x00\x3a\x00\x01\x00")])
		again, l := s.Feed("\x3a\x00\x01\x00")
		want(t, "nothing more", len(l) == 0 && again.Dead() && again.Rest() == 0, true)
		_, ok := s.Order()
		want(t, "Order", ok, b[1] == 1 && b[0] != 'x')
	}
	s, _ := stream.Stream{}.Feed("xyz")
	want(t, "three bytes", s.Dead(), false)
}

// P6.2
func TestParts(t *testing.T) {
	b := stream.Begin(0)
	for _, r := range []api.Request{{Code: 58}, {Code: 11, N: []int64{0}, B: "hello"}, {Code: 2, N: []int64{7}}} {
		p, _ := pack.Put(0, r)
		b += p
	}
	b += "\x02\x00\x03\x00\x01\x00\x00\x00\x00\x00\x00\x00" + "\x3a\x00\x01\x00" + "\x02\x00\x02\x00\x01" // a body that is too long, a no-op, a beginning of more
	whole, l := stream.Stream{}.Feed(b)
	want(t, "items", len(l) == 5 && l[3].Fault == api.BadLength && l[3].Code == 2 && l[4].Code == 58, true)
	for i := range b {
		for j := i; j <= len(b); j++ {
			s, m := feed(stream.Stream{}, b[:i], b[i:j], b[j:])
			want(t, "stream", s.Rest() == whole.Rest() && s.Dead() == whole.Dead() && len(m) == len(l), true)
			for k := range m {
				want(t, "item", pack.Same(m[k].Request, l[k].Request) && m[k].Fault == l[k].Fault && m[k].Code == l[k].Code, true)
			}
		}
	}
	want(t, "Rest", whole.Rest(), 5)
}
