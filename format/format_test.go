package format_test

import (
	"strings"
	"testing"

	"glazier/api"
	"glazier/format"
)

func want[T comparable](t *testing.T, what string, got, wanted T) {
	t.Helper()
	if got != wanted {
		t.Errorf("%s: %v, wanted %v", what, got, wanted)
	}
}

// P2.1, P2.3
func TestThereAndBack(t *testing.T) {
	for _, x := range []struct {
		order int
		f     format.Form
		x     format.Fields
		s     string
	}{
		{1, format.Form{Fixed: []int{2, -1}}, format.Fields{N: []int64{258, -1}}, "\x01\x02\xff\x00"},
		{1, format.Form{Fixed: []int{2, -1}, Bytes: true}, format.Fields{N: []int64{258, -1}, B: "ab"}, "\x01\x02\xff\x00\x00\x00\x00\x02ab\x00\x00"},
		{0, format.Form{List: -2}, format.Fields{L: []int64{1, -2, 3}}, "\x03\x00\x00\x00\x01\x00\xfe\xff\x03\x00\x00\x00"},
		{0, format.Form{Fixed: []int{1}, Bytes: true, List: 1}, format.Fields{N: []int64{7}, B: "abcd", L: []int64{9}}, "\x07\x00\x00\x00\x04\x00\x00\x00abcd\x01\x00\x00\x00\x09\x00\x00\x00"},
		{0, format.Form{}, format.Fields{}, ""},
	} {
		s, e := format.Put(x.order, x.f, x.x)
		want(t, "Put", e, api.OK)
		want(t, "Put", s, x.s)
		want(t, "multiple of four", len(s)%4, 0)
		want(t, "at least Least", len(s) >= x.f.Least(), true)
		other, _ := format.Put(1-x.order, x.f, x.x)
		want(t, "as many in both orders", len(other), len(s))
		y, e := format.Get(x.order, x.f, s)
		want(t, "Get", e, api.OK)
		want(t, "Get", format.Same(x.x, y), true)
	}
}

// P2.1: what Check and Put refuse, in order.
func TestRefused(t *testing.T) {
	want(t, "Check", format.Form{Fixed: make([]int, 17)}.Check(), api.ErrMany)
	want(t, "Check", format.Form{Fixed: []int{1, 3}}.Check(), api.ErrKind)
	want(t, "Check", format.Form{List: 8}.Check(), api.ErrKind)
	want(t, "Check", format.Form{Fixed: []int{1, 2, 4, -1, -2, -4, 1, 1, 1, 1, 1, 1, 1, 1, 1, 1}, List: -4}.Check(), api.OK)
	for _, x := range []struct {
		order int
		f     format.Form
		x     format.Fields
		e     api.Errno
	}{
		{2, format.Form{Fixed: make([]int, 17)}, format.Fields{}, api.ErrKind},
		{0, format.Form{Fixed: make([]int, 17)}, format.Fields{}, api.ErrMany},
		{0, format.Form{Fixed: []int{5}}, format.Fields{}, api.ErrKind},
		{0, format.Form{Fixed: []int{1}}, format.Fields{B: "x"}, api.ErrMatch},
		{0, format.Form{Fixed: []int{1, 1}}, format.Fields{N: []int64{1}}, api.ErrMatch},
		{0, format.Form{Fixed: []int{1}}, format.Fields{N: []int64{1, 999}}, api.ErrMatch},
		{0, format.Form{Fixed: []int{1}}, format.Fields{N: []int64{256}, B: "x"}, api.ErrRange},
		{0, format.Form{}, format.Fields{B: "x"}, api.ErrMatch},
		{0, format.Form{Bytes: true}, format.Fields{B: strings.Repeat("a", 65537), L: []int64{1}}, api.ErrLong},
		{0, format.Form{}, format.Fields{L: []int64{1}}, api.ErrMatch},
		{0, format.Form{List: 1}, format.Fields{L: append(make([]int64, 65536), 999)}, api.ErrLong},
		{0, format.Form{List: 1}, format.Fields{L: []int64{256}}, api.ErrRange},
		{0, format.Form{Bytes: true}, format.Fields{B: strings.Repeat("a", 65533)}, api.ErrLong},
		{0, format.Form{Bytes: true}, format.Fields{B: strings.Repeat("a", 65532)}, api.OK},
		{0, format.Form{List: 4}, format.Fields{L: make([]int64, 16384)}, api.ErrLong},
		{0, format.Form{List: 4}, format.Fields{L: make([]int64, 16383)}, api.OK},
	} {
		s, e := format.Put(x.order, x.f, x.x)
		want(t, "Put", e, x.e)
		want(t, "Put", s == "", e != api.OK)
	}
}

// P2.1: what Get refuses, from the first byte on.
func TestNotRead(t *testing.T) {
	f := format.Form{Fixed: []int{1}, Bytes: true, List: 2}
	for _, x := range []struct {
		s string
		e api.Errno
	}{
		{"", api.ErrShort}, {"\x01\x00\x00", api.ErrShort}, {"\x01\x00\x01", api.ErrForm}, {"\x01\x00\x00\x00\x02\x00\x00\x00a", api.ErrShort},
		{"\x01\x00\x00\x00\xff\xff\xff\xffab", api.ErrShort}, {"\x01\x00\x00\x00\x02\x00\x00\x00ab\x00\x01", api.ErrForm},
		{"\x01\x00\x00\x00\x00\x00\x00\x00", api.ErrShort}, {"\x01\x00\x00\x00\x00\x00\x00\x00\x01\x00\x00\x00a", api.ErrShort},
		{"\x01\x00\x00\x00\x00\x00\x00\x00\xff\xff\xff\xffa", api.ErrShort}, {"\x01\x00\x00\x00\x00\x00\x00\x00\x01\x00\x00\x00ab\x00\x09", api.ErrForm},
		{"\x01\x00\x00\x00\x00\x00\x00\x00\x01\x00\x00\x00ab\x00\x00", api.OK}, {"\x01\x00\x00\x00\x00\x00\x00\x00\x01\x00\x00\x00ab\x00\x00\x00", api.ErrForm},
		{strings.Repeat("\x00", 65537), api.ErrLong},
	} {
		y, e := format.Get(0, f, x.s)
		want(t, "Get", e, x.e)
		want(t, "Get", e == api.OK || format.Same(y, format.Fields{}), true)
	}
	_, e := format.Get(2, format.Form{Fixed: []int{3}}, "")
	want(t, "Get", e, api.ErrKind)
	_, e = format.Get(0, format.Form{Fixed: make([]int, 17)}, "")
	want(t, "Get", e, api.ErrMany)
}

// P2.2
func TestSameAndLeast(t *testing.T) {
	want(t, "Same", format.Same(format.Fields{N: []int64{}}, format.Fields{L: []int64{}}), true)
	want(t, "Same", format.Same(format.Fields{N: []int64{1}}, format.Fields{N: []int64{2}}), false)
	want(t, "Same", format.Same(format.Fields{B: "a"}, format.Fields{}), false)
	want(t, "Same", format.Same(format.Fields{L: []int64{1}}, format.Fields{N: []int64{1}}), false)
	want(t, "Least", format.Form{Fixed: []int{1, 1, 1, 1, 1}, Bytes: true, List: 2}.Least(), 16)
	want(t, "Least", format.Form{}.Least(), 0)
	want(t, "Least", format.Form{Fixed: []int{3}}.Least(), 0)
}
