package pack_test

import (
	"math/rand"
	"strings"
	"testing"

	"glazier/api"
	"glazier/code"
	"glazier/pack"
)

func want[T comparable](t *testing.T, what string, got, wanted T) {
	t.Helper()
	if got != wanted {
		t.Errorf("%s: %v, wanted %v", what, got, wanted)
	}
}

// P4.1
func TestPut(t *testing.T) {
	for _, x := range []struct {
		order int
		r     api.Request
		s     string
		e     api.Errno
	}{
		{1, api.Request{Code: 58}, "\x3a\x00\x00\x01", api.OK},
		{0, api.Request{Code: 2, N: []int64{5}}, "\x02\x00\x02\x00\x05\x00\x00\x00", api.OK},
		{0, api.Request{Code: 11, N: []int64{0}, B: "abc"}, "\x0b\x00\x04\x00\x00\x00\x00\x00\x03\x00\x00\x00abc\x00", api.OK},
		{2, api.Request{Code: 99}, "", api.ErrOrder}, {0, api.Request{Code: 0}, "", api.ErrKind}, {0, api.Request{Code: 59}, "", api.ErrKind},
		{0, api.Request{Code: 2}, "", api.ErrMatch}, {0, api.Request{Code: 2, N: []int64{-1}}, "", api.ErrRange}, {0, api.Request{Code: 58, B: "a"}, "", api.ErrMatch},
		{0, api.Request{Code: 11, N: []int64{0}, B: strings.Repeat("a", 65528)}, "", api.ErrLong},
	} {
		s, e := pack.Put(x.order, x.r)
		want(t, "Put", s, x.s)
		want(t, "Put", e, x.e)
		if x.order < 2 {
			want(t, "Check", pack.Check(x.r), x.e)
		}
	}
	s, e := pack.Put(0, api.Request{Code: 11, N: []int64{0}, B: strings.Repeat("a", 65524)})
	want(t, "Put", e, api.OK)
	want(t, "Put", len(s), 65536)
}

// P4.1
func TestGet(t *testing.T) {
	for _, x := range []struct {
		order int
		s     string
		e     api.Errno
	}{
		{2, "", api.ErrOrder}, {0, "\x3a\x00\x01", api.ErrShort}, {0, "\x63\x09\x00\x00", api.ErrKind}, {0, "\x00\x00\x01\x00", api.ErrKind},
		{0, "\x3a\x09\x00\x00", api.ErrEmpty}, {0, "\x3a\x09\xff\xff", api.ErrLong}, {0, "\x3a\x09\x02\x00", api.ErrSize}, {0, "\x3a\x09\x01\x00\x00", api.ErrSize},
		{0, "\x3a\x09\x01\x00", api.ErrForm}, {0, "\x02\x00\x01\x00", api.ErrShort}, {0, "\x3a\x00\x02\x00\x00\x00\x00\x00", api.ErrForm}, {0, "\x3a\x00\x01\x00", api.OK},
	} {
		r, e := pack.Get(x.order, x.s)
		want(t, "Get "+x.s, e, x.e)
		want(t, "Get "+x.s, e == api.OK || pack.Same(r, api.Request{}), true)
	}
}

// P4.2
func TestLengthAndSame(t *testing.T) {
	for _, x := range []struct {
		order int
		s     string
		n     int
		e     api.Errno
	}{
		{3, "", 0, api.ErrOrder}, {0, "abc", 0, api.ErrShort}, {0, "ab\x00\x00", 0, api.ErrEmpty}, {0, "ab\x01\x40", 0, api.ErrLong},
		{0, "ab\x00\x40rest", 65536, api.OK}, {1, "ab\x00\x02", 8, api.OK},
	} {
		n, e := pack.Length(x.order, x.s)
		want(t, "Length", n, x.n)
		want(t, "Length", e, x.e)
	}
	a := api.Request{Code: 1, N: []int64{1}, B: "a", L: []int64{2}}
	for i, b := range []api.Request{{Code: 2, N: []int64{1}, B: "a", L: []int64{2}}, {Code: 1, B: "a", L: []int64{2}}, {Code: 1, N: []int64{1}, L: []int64{2}}, {Code: 1, N: []int64{1}, B: "a", L: []int64{3}}, a} {
		want(t, "Same", pack.Same(a, b), i == 4)
	}
	want(t, "Same", pack.Same(api.Request{N: []int64{}}, api.Request{L: []int64{}}), true)
}

// P4.3
func TestThereAndBack(t *testing.T) {
	rnd := rand.New(rand.NewSource(1))
	for c := 1; c <= 58; c++ {
		f, _ := code.Request(c)
		r := api.Request{Code: c}
		for range f.Fixed {
			r.N = append(r.N, int64(rnd.Intn(128)))
		}
		if f.Bytes {
			r.B = "hello"
		}
		if f.List != 0 {
			r.L = []int64{1, 2, 3}
		}
		little, _ := pack.Put(0, r)
		big, _ := pack.Put(1, r)
		n, e := pack.Length(1, big)
		want(t, "length", n, len(little))
		want(t, "length", e, api.OK)
		for o, s := range []string{little, big} {
			g, e := pack.Get(o, s)
			again, _ := pack.Put(o, g)
			want(t, code.Name(c), e, api.OK)
			want(t, code.Name(c), pack.Same(g, r) && again == s, true)
		}
	}
}
