package rop

import (
	"strings"
	"testing"

	"glazier/api"
)

func want[T comparable](t *testing.T, what string, got, wanted T) {
	t.Helper()
	if got != wanted {
		t.Errorf("%s: %v, wanted %v", what, got, wanted)
	}
}

// P18.1
func TestMix(t *testing.T) {
	for _, x := range []struct {
		op                   int
		src, dst, planes, to api.Pixel
	}{
		{Xor, 5, 3, 255, 6}, {Copy, 5, 3, 1, 3}, {Nor, 5, 3, 15, 8}, {Clear, 5, 3, 255, 0}, {Set, 5, 3, 0xf0, 0xf3}, {And, 5, 3, 255, 1}, {AndReverse, 5, 3, 255, 4}, {AndInverted, 5, 3, 255, 2},
		{NoOp, 5, 3, 255, 3}, {Or, 5, 3, 255, 7}, {Equiv, 5, 3, 255, 0xf9}, {Invert, 5, 3, 255, 0xfc}, {OrReverse, 5, 3, 255, 0xfd}, {CopyInverted, 5, 3, 255, 0xfa}, {OrInverted, 5, 3, 255, 0xfb}, {Nand, 5, 3, 255, 0xfe},
		{16, 5, 3, 255, 3}, {-1, 5, 3, 255, 3}, {Set, 5, 3, 0, 3},
	} {
		want(t, Name(x.op), Mix(x.op, x.src, x.dst, x.planes), x.to)
		for i := range 8 {
			b := Bit(x.op, x.src>>i&1 == 1, x.dst>>i&1 == 1)
			if x.planes>>i&1 == 1 {
				want(t, Name(x.op), b, x.to>>i&1 == 1)
			}
		}
	}
}

// P18.2
func TestNames(t *testing.T) {
	for op, n := range strings.Fields("clear and and-reverse copy and-inverted no-op xor or nor equiv invert or-reverse copy-inverted or-inverted nand set") {
		o, ok := Of(n)
		want(t, n, Name(op) == n && o == op && ok, true)
	}
	o, ok := Of("")
	want(t, "none", Name(-1)+Name(16) == "" && o == 0 && !ok, true)
}

// P18.3, P18.4
func TestThen(t *testing.T) {
	for a := range 16 {
		for b := range 16 {
			c, ok := Then(a, b)
			want(t, "Then", ok, true)
			for i := range 4096 {
				s, d, p := api.Pixel(i&15), api.Pixel(i>>4&15), api.Pixel(i>>8)
				want(t, "after another", Mix(c, s, d, p), Mix(b, s, Mix(a, s, d, p), p))
			}
		}
	}
	c, _ := Then(Xor, Xor)
	d, _ := Then(Copy, Invert)
	want(t, "Then", c == NoOp && d == CopyInverted, true)
	for _, x := range [][2]int{{16, 0}, {0, 16}, {-1, 3}, {3, -1}} {
		c, ok := Then(x[0], x[1])
		want(t, "none", c == 0 && !ok, true)
	}
	for _, op := range []int{Copy, Clear, Set, CopyInverted} {
		c, _ := Then(op, op)
		want(t, "twice", c, op)
	}
}
