package stub_test

import (
	"slices"
	"strings"
	"testing"

	"glazier/api"
	"glazier/stream"
	"glazier/stub"
	"glazier/tell"
)

func want[T comparable](t *testing.T, what string, got, wanted T) {
	t.Helper()
	if got != wanted {
		t.Errorf("%s: %v, wanted %v", what, got, wanted)
	}
}

func waits(t *testing.T, s stub.Stub, numbers ...int) {
	t.Helper()
	if !slices.Equal(s.Waiting(), numbers) {
		t.Errorf("Waiting: %v, wanted %v", s.Waiting(), numbers)
	}
}

var geometry = api.Request{Code: 9, N: []int64{5}}
var noop = api.Request{Code: 58}

func put(t *testing.T, o api.Out) string {
	t.Helper()
	s, e := tell.Put(0, o)
	if e != api.OK {
		t.Fatal(e)
	}
	return s
}

func reply(seq int) api.Out {
	return api.Out{Kind: 1, Code: 9, Seq: seq, N: []int64{1, 0, 0, 1, 1, 0, 0}}
}

// P8.1
func TestAsk(t *testing.T) {
	_, e := stub.New(2, 9)
	want(t, "New", e, api.ErrOrder)
	_, e = stub.New(1, 9)
	want(t, "New", e, api.ErrRange)
	s, e := stub.New(1, 3)
	want(t, "New", e, api.OK)
	a, e := s.Ask(geometry, noop)
	want(t, "Ask", e, api.OK)
	want(t, "Sent", a.Sent()*10+s.Sent(), 20)
	waits(t, a, 1)
	a, out := a.Take()
	want(t, "Take", out, stream.Begin(1)+"\x09\x00\x00\x02\x00\x00\x00\x05\x3a\x00\x00\x01")
	_, out = a.Take()
	want(t, "Take", out, "")
	b, e := a.Ask(noop, api.Request{Code: 2})
	want(t, "Ask", e, api.ErrMatch)
	want(t, "Sent", b.Sent(), 2)
	big := api.Request{Code: 11, N: []int64{0}, B: strings.Repeat("a", 65504)}
	b, e = s.Ask(big, geometry)
	want(t, "Ask", e, api.OK)
	b, e = b.Ask(noop, noop)
	want(t, "Ask", e, api.OK)
	c, e := b.Ask(noop)
	want(t, "full", e, api.ErrFull)
	want(t, "Sent", c.Sent(), 4)
	var zero stub.Stub
	_, e = zero.Ask()
	want(t, "zero", e, api.ErrDead)
	_, _, e = zero.Feed("")
	want(t, "zero", e, api.ErrDead)
	_, _, e = zero.Fresh()
	want(t, "zero", e, api.ErrMany)
}

// P8.2
func TestFeed(t *testing.T) {
	s, _ := stub.New(0, 1)
	s, _ = s.Ask(geometry, noop, geometry)
	waits(t, s, 1, 3)
	for _, o := range []api.Out{reply(2), reply(3), {Kind: 2, Code: 12, Seq: 2, N: []int64{1}}, {Kind: 0, Code: 1, Seq: 0, N: []int64{0, 0}}, {Kind: 0, Code: 1, Seq: 4, N: []int64{0, 0}}, {Kind: 1, Code: 38, Seq: 1, N: []int64{0, 0}}} {
		d, l, e := s.Feed(put(t, api.Out{Kind: 2, Code: 12, N: []int64{1}}) + put(t, o))
		want(t, "may not come", e, api.ErrState)
		want(t, "none", len(l), 0)
		waits(t, d, 1, 3)
		_, _, e = d.Feed("")
		want(t, "dead", e, api.ErrDead)
		_, e = d.Ask(noop)
		want(t, "ask still", e, api.OK)
	}
	u, l, e := s.Feed(put(t, reply(1)) + put(t, api.Out{Kind: 2, Code: 12, Seq: 2, N: []int64{1}}) + put(t, api.Out{Kind: 0, Code: 3, Seq: 3, N: []int64{5, 9}}))
	want(t, "Feed", e, api.OK)
	want(t, "Feed", len(l) == 3 && l[2].Seq == 3, true)
	waits(t, u)
	waits(t, s, 1, 3)
	still, _, e := s.Feed(put(t, api.Out{Kind: 2, Code: 12, Seq: 1, N: []int64{1}}))
	want(t, "an event of that number", e, api.OK)
	waits(t, still, 1, 3)
	one, _ := stub.New(0, 1)
	one, _ = one.Ask(geometry, noop)
	_, _, e = one.Feed(put(t, api.Out{Kind: 2, Code: 12, Seq: 2, N: []int64{1}}))
	want(t, "ahead of the reply", e, api.ErrState)
	_, _, e = s.Feed(put(t, api.Out{Kind: 0, Code: 3, Seq: 1, N: []int64{5, 9}}))
	want(t, "a fault of the first one", e, api.OK)
	_, _, e = u.Feed(put(t, reply(3)))
	want(t, "not awaited", e, api.ErrState)
	_, _, e = u.Feed("\x00\x00\x00\x00\x02\x00\x00\x00")
	want(t, "no message", e, api.ErrNone)
	_, _, e = u.Feed("\x00\x01\x03\x00\x03\x00\x00\x00\x00\x00\x00\x00")
	want(t, "too short", e, api.ErrShort)
	for _, x := range [][3]int{{65535, 0, 65536}, {70000, 4464, 70000}, {-1, 0, -1}, {1 << 40, 0, 1 << 40}, {1<<40 + 1, 0, -1}, {0, 65536, -1}, {0, -1, -1}, {5, 4, 65540}} {
		want(t, "Wide", stub.Wide(x[0], x[1]), x[2])
	}
}

// P8.2: numbers beyond the low bits.
func TestFarNumbers(t *testing.T) {
	s, _ := stub.New(0, 1)
	for range 70 {
		s, _ = s.Ask(slices.Repeat([]api.Request{noop}, 1000)...)
		s, _ = s.Take()
	}
	s, _ = s.Ask(geometry)
	s, l, e := s.Feed(put(t, api.Out{Kind: 2, Code: 12, Seq: 65535, N: []int64{1}}) + put(t, reply(70001)))
	want(t, "Feed", e, api.OK)
	want(t, "Seq", l[1].Seq, 70001)
	waits(t, s)
}

// P8.3
func TestFresh(t *testing.T) {
	s, _ := stub.New(0, 2)
	for i := api.ID(1); i < 1<<20; i++ {
		var id api.ID
		var e api.Errno
		if s, id, e = s.Fresh(); id != 2<<20+i || e != api.OK {
			t.Fatal(i, id, e)
		}
	}
	_, id, e := s.Fresh()
	want(t, "Fresh", id == 0 && e == api.ErrMany, true)
}

// P8.4
func TestParts(t *testing.T) {
	s, _ := stub.New(0, 1)
	s, _ = s.Ask(geometry, geometry)
	b := put(t, reply(1)) + put(t, api.Out{Kind: 2, Code: 12, Seq: 1, N: []int64{1}}) + put(t, reply(2))
	for i := range b {
		u, l, e := s.Feed(b[:i])
		u, m, f := u.Feed(b[i:])
		want(t, "parts", e == api.OK && f == api.OK && len(l)+len(m) == 3 && len(u.Waiting()) == 0, true)
	}
}
