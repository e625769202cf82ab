package order_test

import (
	"strings"
	"testing"

	"glazier/api"
	"glazier/order"
)

func want[T comparable](t *testing.T, what string, got, wanted T) {
	t.Helper()
	if got != wanted {
		t.Errorf("%s: %v, wanted %v", what, got, wanted)
	}
}

// P1.1
func TestPutAndGet(t *testing.T) {
	for _, x := range []struct {
		order, size int
		v           int64
		b           string
	}{
		{order.Little, 2, 258, "\x02\x01"}, {order.Big, 2, 258, "\x01\x02"}, {order.Big, -2, -2, "\xff\xfe"},
		{order.Little, 1, 0, "\x00"}, {order.Little, 4, 4294967295, "\xff\xff\xff\xff"},
		{order.Big, -4, -2147483648, "\x80\x00\x00\x00"}, {order.Little, -4, 2147483647, "\xff\xff\xff\x7f"},
		{order.Little, -1, -1, "\xff"}, {order.Big, -1, 127, "\x7f"},
	} {
		b, e := order.Put(x.order, x.size, x.v)
		want(t, "Put", e, api.OK)
		want(t, "Put", b, x.b)
		v, e := order.Get(x.order, x.size, x.b)
		want(t, "Get", e, api.OK)
		want(t, "Get", v, x.v)
	}
	for _, x := range []struct {
		order, size int
		v           int64
		e           api.Errno
	}{
		{2, 3, 999, api.ErrKind}, {-1, 1, 0, api.ErrKind}, {0, 3, 1 << 60, api.ErrSize}, {0, 0, 0, api.ErrSize}, {0, -3, 0, api.ErrSize},
		{0, 1, 256, api.ErrRange}, {0, 1, -1, api.ErrRange}, {0, 2, 65536, api.ErrRange}, {1, 4, 1 << 32, api.ErrRange},
		{0, -1, 128, api.ErrRange}, {0, -1, -129, api.ErrRange}, {0, -2, 32768, api.ErrRange}, {0, -4, 1 << 31, api.ErrRange},
	} {
		b, e := order.Put(x.order, x.size, x.v)
		want(t, "Put", e, x.e)
		want(t, "Put", b, "")
	}
	for _, x := range []struct {
		order, size int
		b           string
		e           api.Errno
	}{{2, 3, "", api.ErrKind}, {1, 5, "", api.ErrSize}, {0, 4, "abc", api.ErrShort}, {0, 1, "", api.ErrShort}, {1, -2, "abc", api.ErrLong}} {
		v, e := order.Get(x.order, x.size, x.b)
		want(t, "Get", e, x.e)
		want(t, "Get", v, 0)
	}
}

// P1.2
func TestRows(t *testing.T) {
	s, e := order.Row(order.Big, -2, 1, -2, 3)
	want(t, "Row", e, api.OK)
	want(t, "Row", s, "\x00\x01\xff\xfe\x00\x03")
	l, e := order.Rows(order.Big, -2, s)
	want(t, "Rows", e, api.OK)
	want(t, "Rows", len(l) == 3 && l[0] == 1 && l[1] == -2 && l[2] == 3, true)
	_, e = order.Row(3, 3, make([]int64, 65537)...)
	want(t, "Row", e, api.ErrKind)
	_, e = order.Row(0, 3, make([]int64, 65537)...)
	want(t, "Row", e, api.ErrSize)
	_, e = order.Row(0, 1, append(make([]int64, 65536), 256)...)
	want(t, "Row", e, api.ErrMany)
	_, e = order.Row(0, 4, make([]int64, 65536)...)
	want(t, "Row", e, api.OK)
	s, e = order.Row(0, 1, 1, 256)
	want(t, "Row", e, api.ErrRange)
	want(t, "Row", s, "")
	_, e = order.Rows(2, 9, "")
	want(t, "Rows", e, api.ErrKind)
	_, e = order.Rows(1, 9, "")
	want(t, "Rows", e, api.ErrSize)
	_, e = order.Rows(1, 4, strings.Repeat("a", 262145))
	want(t, "Rows", e, api.ErrLong)
	l, e = order.Rows(1, 4, strings.Repeat("a", 262144))
	want(t, "Rows", e, api.OK)
	want(t, "Rows", len(l), 65536)
	l, e = order.Rows(1, 4, "abcdef")
	want(t, "Rows", e, api.ErrShort)
	want(t, "Rows", len(l), 0)
}

// P1.3
func TestPad(t *testing.T) {
	for n, p := range []int{0, 3, 2, 1, 0, 3, 2} {
		want(t, "Pad", order.Pad(n), p)
	}
	want(t, "Pad below 0", order.Pad(-5), 0)
}

// P1.4
func TestThereAndBack(t *testing.T) {
	for u := 0; u < 65536; u++ {
		b := string([]byte{byte(u), byte(u >> 8)})
		turned := string([]byte{byte(u >> 8), byte(u)})
		for _, size := range []int{2, -2} {
			v, e := order.Get(order.Little, size, b)
			w, _ := order.Get(order.Big, size, turned)
			s, f := order.Put(order.Little, size, v)
			if e != api.OK || f != api.OK || s != b || v != w {
				t.Fatal(u, size, v, w, s)
			}
		}
	}
}
