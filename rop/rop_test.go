package rop_test

import (
	"strings"
	"testing"

	"glazier/api"
	"glazier/rop"
)

func want[T comparable](t *testing.T, what string, got, wanted T) {
	t.Helper()
	if got != wanted {
		t.Errorf("%s: %v, wanted %v", what, got, wanted)
	}
}

// P18.1
func TestMix(t *testing.T) {
	for _, x := range []struct {
		op                   int
		src, dst, planes, to api.Pixel
	}{
		{rop.Xor, 5, 3, 255, 6}, {rop.Copy, 5, 3, 1, 3}, {rop.Nor, 5, 3, 15, 8}, {rop.Clear, 5, 3, 255, 0}, {rop.Set, 5, 3, 0xf0, 0xf3}, {rop.And, 5, 3, 255, 1}, {rop.AndReverse, 5, 3, 255, 4}, {rop.AndInverted, 5, 3, 255, 2},
		{rop.NoOp, 5, 3, 255, 3}, {rop.Or, 5, 3, 255, 7}, {rop.Equiv, 5, 3, 255, 0xf9}, {rop.Invert, 5, 3, 255, 0xfc}, {rop.OrReverse, 5, 3, 255, 0xfd}, {rop.CopyInverted, 5, 3, 255, 0xfa}, {rop.OrInverted, 5, 3, 255, 0xfb}, {rop.Nand, 5, 3, 255, 0xfe},
		{16, 5, 3, 255, 3}, {-1, 5, 3, 255, 3}, {rop.Set, 5, 3, 0, 3},
	} {
		want(t, rop.Name(x.op), rop.Mix(x.op, x.src, x.dst, x.planes), x.to)
		for i := range 8 {
			b := rop.Bit(x.op, x.src>>i&1 == 1, x.dst>>i&1 == 1)
			if x.planes>>i&1 == 1 {
				want(t, rop.Name(x.op), b, x.to>>i&1 == 1)
			}
		}
	}
}

// P18.2
func TestNames(t *testing.T) {
	for op, n := range strings.Fields("clear and and-reverse copy and-inverted no-op xor or nor equiv invert or-reverse copy-inverted or-inverted nand set") {
		o, ok := rop.Of(n)
		want(t, n, rop.Name(op) == n && o == op && ok, true)
	}
	o, ok := rop.Of("")
	want(t, "none", rop.Name(-1)+rop.Name(16) == "" && o == 0 && !ok, true)
}

// P18.3, P18.4
func TestThen(t *testing.T) {
	for a := range 16 {
		for b := range 16 {
			c, ok := rop.Then(a, b)
			want(t, "Then", ok, true)
			for i := range 4096 {
				s, d, p := api.Pixel(i&15), api.Pixel(i>>4&15), api.Pixel(i>>8)
				want(t, "after another", rop.Mix(c, s, d, p), rop.Mix(b, s, rop.Mix(a, s, d, p), p))
			}
		}
	}
	c, _ := rop.Then(rop.Xor, rop.Xor)
	d, _ := rop.Then(rop.Copy, rop.Invert)
	want(t, "Then", c == rop.NoOp && d == rop.CopyInverted, true)
	for _, x := range [][2]int{{16, 0}, {0, 16}, {-1, 3}, {3, -1}} {
		c, ok := rop.Then(x[0], x[1])
		want(t, "none", c == 0 && !ok, true)
	}
	for _, op := range []int{rop.Copy, rop.Clear, rop.Set, rop.CopyInverted} {
		c, _ := rop.Then(op, op)
		want(t, "twice", c, op)
	}
}
