package tell_test

import (
	"strings"
	"testing"

	"glazier/api"
	"glazier/tell"
)

func want[T comparable](t *testing.T, what string, got, wanted T) {
	t.Helper()
	if got != wanted {
		t.Errorf("%s: %v, wanted %v", what, got, wanted)
	}
}

// P5.1
func TestPut(t *testing.T) {
	fault := api.Out{Kind: 0, Code: 8, Seq: 65537, N: []int64{-2, 7}}
	for _, x := range []struct {
		order int
		o     api.Out
		s     string
		e     api.Errno
	}{
		{1, fault, "\x00\x08\x00\x01\x00\x00\x00\x04\xff\xff\xff\xfe\x07\x00\x00\x00", api.OK},
		{0, api.Out{Kind: 1, Code: 11, Seq: 1, N: []int64{8}}, "\x01\x0b\x01\x00\x03\x00\x00\x00\x08\x00\x00\x00", api.OK},
		{0, api.Out{Kind: 2, Code: 12, N: []int64{5}}, "\x02\x0c\x00\x00\x03\x00\x00\x00\x05\x00\x00\x00", api.OK},
		{5, api.Out{Kind: 9}, "", api.ErrOrder}, {0, api.Out{Kind: 3, Seq: -1}, "", api.ErrKind}, {0, api.Out{Kind: -1}, "", api.ErrKind},
		{0, api.Out{Kind: 0, Code: 0, Seq: -1}, "", api.ErrNone}, {0, api.Out{Kind: 0, Code: 256}, "", api.ErrNone}, {0, api.Out{Kind: 1, Code: 1}, "", api.ErrNone}, {0, api.Out{Kind: 2, Code: 26}, "", api.ErrNone},
		{0, api.Out{Kind: 0, Code: 1, Seq: -1}, "", api.ErrValue}, {0, api.Out{Kind: 0, Code: 1, Seq: 1<<40 + 1, N: []int64{1, 1}}, "", api.ErrValue},
		{0, api.Out{Kind: 0, Code: 1, N: []int64{1}}, "", api.ErrMatch}, {0, api.Out{Kind: 0, Code: 1, N: []int64{1, 256}}, "", api.ErrRange}, {0, api.Out{Kind: 2, Code: 12, N: []int64{5}, L: []int64{1}}, "", api.ErrMatch},
	} {
		s, e := tell.Put(x.order, x.o)
		want(t, "Put", s, x.s)
		want(t, "Put", e, x.e)
		if x.order < 2 {
			want(t, "Check", tell.Check(x.o), x.e)
		}
	}
	want(t, "Check", tell.Check(api.Out{Kind: 0, Code: 255, Seq: 1 << 40, N: []int64{1, 1}}), api.OK)
	for _, o := range []api.Out{{Kind: 1, Code: 8, Seq: 65537, N: []int64{-2, 7}}, {Code: 9, Seq: 65537, N: []int64{-2, 7}}, {Code: 8, Seq: 1, N: []int64{-2, 7}}, {Code: 8, Seq: 65537, N: []int64{-2}}, {Code: 8, Seq: 65537, N: []int64{-2, 7}, B: "a"}, {Code: 8, Seq: 65537, N: []int64{-2, 7}, L: []int64{1}}} {
		want(t, "Same", tell.Same(fault, o), false)
	}
	want(t, "Same", tell.Same(fault, api.Out{Code: 8, Seq: 65537, N: []int64{-2, 7}, L: []int64{}}), true)
}

// P5.2
func TestLengthAndGet(t *testing.T) {
	for _, x := range []struct {
		order int
		s     string
		n     int
		e     api.Errno
		get   api.Errno
	}{
		{2, "", 0, api.ErrOrder, api.ErrOrder}, {0, "\x09\x00\x00\x00\x00\x00\x00", 0, api.ErrShort, api.ErrShort}, {0, "\x03\x00\x00\x00\x00\x00\x00\x00", 0, api.ErrKind, api.ErrKind},
		{0, "\x00\x00\x00\x00\x00\x00\x00\x00", 0, api.ErrNone, api.ErrNone}, {0, "\x01\x01\x00\x00\x00\x00\x00\x00", 0, api.ErrNone, api.ErrNone},
		{0, "\x00\x01\x00\x00\x01\x00\x00\x00", 0, api.ErrForm, api.ErrForm}, {0, "\x00\x01\x00\x00\x03\x40\x00\x00", 0, api.ErrLong, api.ErrLong},
		{0, "\x00\x01\x00\x00\x02\x40\x00\x00", 65544, api.OK, api.ErrShort}, {0, "\x00\x01\x00\x00\x02\x00\x00\x00", 8, api.OK, api.ErrShort},
		{1, "\x00\x01\x00\x00\x00\x00\x00\x04\x00\x00\x00\x00\x00\x00\x01\x00", 16, api.OK, api.ErrForm}, {1, "\x00\x01\x00\x00\x00\x00\x00\x04\x00\x00\x00\x00\x00\x00\x00\x00more", 16, api.OK, api.OK},
	} {
		n, e := tell.Length(x.order, x.s)
		want(t, "Length", n, x.n)
		want(t, "Length", e, x.e)
		o, n, e := tell.Get(x.order, x.s)
		want(t, "Get", e, x.get)
		want(t, "Get", n, map[bool]int{true: x.n}[e == api.OK])
		want(t, "Get", e == api.OK || tell.Same(o, api.Out{}), true)
	}
}

// P5.3
func TestThereAndBack(t *testing.T) {
	all := ""
	l := []api.Out{
		{Kind: 0, Code: 2, Seq: 70000, N: []int64{-1 << 31, 255}},
		{Kind: 1, Code: 10, Seq: 1 << 40, N: []int64{1}, L: []int64{2, 1<<32 - 1}},
		{Kind: 1, Code: 12, Seq: 3, B: strings.Repeat("x", 255)},
		{Kind: 2, Code: 6, Seq: 65535, N: []int64{1, 2, -3, 4, -32768, 32767, 7, 8}},
	}
	for _, m := range l {
		s, e := tell.Put(1, m)
		want(t, "Put", e, api.OK)
		all += s
	}
	for _, m := range l {
		g, n, e := tell.Get(1, all)
		again, _ := tell.Put(1, g)
		want(t, "again", again, all[:n])
		all = all[n:]
		m.Seq %= 65536
		want(t, "Get", e, api.OK)
		want(t, "Get", tell.Same(g, m), true)
	}
	want(t, "rest", all, "")
}
