package script_test

import (
	"slices"
	"strings"
	"testing"

	"glazier/api"
	"glazier/script"
)

func want[T comparable](t *testing.T, what string, got, wanted T) {
	t.Helper()
	if got != wanted {
		t.Errorf("%s: %v, wanted %v", what, got, wanted)
	}
}

func same(a, b []script.Command, lines bool) bool {
	return slices.EqualFunc(a, b, func(x, y script.Command) bool {
		return x.Op == y.Op && slices.Equal(x.Nums, y.Nums) && slices.Equal(x.Words, y.Words) && (!lines || x.Line == y.Line)
	})
}

const all = "screen 128 1\njoin plain 0 1\nask 1 58\nask 8 255 -2147483648 4294967295 0\nsay 1 11 696e6372 0\nsay 1 11 -\nrow 1 28 2 5 6 7\nrow 1 28 0\nbytes 1 -\nbytes 2 00ff\nturn 1 65536\ninput 5 0 -3 4 99\nhang 8\nshow\nread 1\ntext 2\nwrite 3 0a\nlose 4 4\ncalm\naudit\njoin raw 1 0\njoin manager 0 0\njoin editor 0 0\njoin term 0 0\n"

// P63.1, P63.2, P63.3
func TestThereAndBack(t *testing.T) {
	l, n, e := script.Parse(all)
	want(t, "Parse", n == 0 && e == api.OK && len(l) == 24, true)
	s, e := script.Print(l...)
	want(t, "Print", e == api.OK && s == all, true)
	for i, c := range l {
		want(t, "Line", c.Line, i+1)
	}
	m, _, e := script.Parse("# first\n\nscreen 20 10\n#\njoin plain 0 1\n\n\nsay 1 11 696e6372 0\nbytes 1 -")
	want(t, "example", e == api.OK && same(m, []script.Command{{3, 0, []int64{20, 10}, nil}, {5, 1, []int64{0, 1}, []string{"plain"}}, {8, 3, []int64{1, 11, 0}, []string{"696e6372"}}, {9, 5, []int64{1}, []string{"-"}}}, true), true)
	s, _ = script.Print(m...)
	again, _, _ := script.Parse(s)
	want(t, "but for the Lines", same(again, m, false) && again[3].Line == 4, true)
	for op, name := range strings.Fields("screen join ask say row bytes turn input hang show read text write lose calm audit") {
		want(t, "Name", script.Name(op), name)
	}
	want(t, "Name", script.Name(-1)+script.Name(16), "")
}

// P63.1: what Parse refuses, in order.
func TestParse(t *testing.T) {
	many := "screen 1 1\n" + strings.Repeat("calm\n", 999)
	for _, x := range []struct {
		s string
		n int
		e api.Errno
	}{
		{strings.Repeat("\n", 65537), 0, api.ErrLong}, {"", 0, api.ErrEmpty}, {"#\n\n#", 0, api.ErrEmpty}, {"what 1\n", 1, api.ErrName}, {" screen 1 1", 1, api.ErrName}, {"\nScreen 1 1", 2, api.ErrName}, {"screen 1 1\r", 1, api.ErrForm}, {"screen 1", 1, api.ErrForm}, {"screen 1 1 1", 1, api.ErrForm}, {"screen  1 1", 1, api.ErrForm}, {"screen 1 1 ", 1, api.ErrForm}, {"screen 01 1", 1, api.ErrForm}, {"screen -0 1", 1, api.ErrForm}, {"screen +1 1", 1, api.ErrForm}, {"screen 1 a", 1, api.ErrForm},
		{"screen 0 1", 1, api.ErrRange}, {"screen 129 1", 1, api.ErrRange}, {"screen 99999999999999999999999 1", 1, api.ErrRange}, {"screen -99999999999 1", 1, api.ErrRange}, {"calm", 1, api.ErrOrder}, {"turn 9 1", 1, api.ErrRange}, {"screen 1 1\nscreen 1 1", 2, api.ErrOrder}, {"screen 1 1\nscreen 0 1", 2, api.ErrRange},
		{"screen 1 1\njoin 0 0", 2, api.ErrForm}, {"screen 1 1\njoin plane 0 0", 2, api.ErrForm}, {"screen 1 1\njoin 0 plain 0", 2, api.ErrForm}, {"screen 1 1\njoin plain 2 0", 2, api.ErrRange}, {"screen 1 1\njoin plain 0 2", 2, api.ErrRange}, {"screen 1 1\njoin plain", 2, api.ErrForm}, {"screen 1 1\njoin", 2, api.ErrForm}, {"screen 1 1\nask 1", 2, api.ErrForm}, {"screen 1 1\nask 0 1", 2, api.ErrRange}, {"screen 1 1\nask 1 256", 2, api.ErrRange}, {"screen 1 1\nask 1 0", 0, api.OK}, {"screen 1 1\nask 1 -1", 2, api.ErrRange}, {"screen 1 1\nturn 1 1", 0, api.OK}, {"screen 1 1\nlose 1 0", 0, api.OK}, {"screen 1 1\nlose 1 -1", 2, api.ErrRange}, {"screen 1 1\nask 1 1 4294967296", 2, api.ErrRange}, {"screen 1 1\nask 1 1 -2147483649", 2, api.ErrRange},
		{"screen 1 1\nask 1 1" + strings.Repeat(" 0", 98), 0, api.OK}, {"screen 1 1\nask 1 1" + strings.Repeat(" 0", 99), 2, api.ErrForm}, {"screen 1 1\nsay 1 1", 2, api.ErrForm}, {"screen 1 1\nsay 1 1 5 -", 2, api.ErrForm}, {"screen 1 1\nsay 1 1 0G", 2, api.ErrForm}, {"screen 1 1\nsay 1 1 0A", 2, api.ErrForm}, {"screen 1 1\nsay 1 1 000", 2, api.ErrForm}, {"screen 1 1\nsay 1 1 00 x", 2, api.ErrForm},
		{"screen 1 1\nrow 1 1", 2, api.ErrForm}, {"screen 1 1\nrow 1 1 -1", 2, api.ErrRange}, {"screen 1 1\nrow 1 1 2 5", 2, api.ErrRange}, {"screen 1 1\nbytes 1", 2, api.ErrForm}, {"screen 1 1\nbytes 0 -", 2, api.ErrRange}, {"screen 1 1\nwrite 1 -", 2, api.ErrForm}, {"screen 1 1\nturn 1 0", 2, api.ErrRange}, {"screen 1 1\nturn 1 65537", 2, api.ErrRange}, {"screen 1 1\nlose 1 5", 2, api.ErrRange}, {"screen 1 1\nshow 1", 2, api.ErrForm}, {"screen 1 1\ninput 1 2 3 4", 2, api.ErrForm},
		{many, 0, api.OK}, {many + "calm", 1001, api.ErrMany}, {many + "screen 1 1", 1001, api.ErrOrder}, {many + "calm 1", 1001, api.ErrForm},
	} {
		l, n, e := script.Parse(x.s)
		if n != x.n || e != x.e || (len(l) > 0) != (e == api.OK) {
			t.Errorf("%.40q: line %d, error %d", x.s, n, e)
		}
	}
}

// P63.2: what Print refuses, in order.
func TestPrint(t *testing.T) {
	screen, calm := script.Command{Op: 0, Nums: []int64{1, 1}}, script.Command{Op: 14}
	for i, x := range []struct {
		l []script.Command
		e api.Errno
	}{
		{nil, api.ErrEmpty}, {make([]script.Command, 1001), api.ErrMany}, {[]script.Command{{Op: 16, Nums: []int64{1}}}, api.ErrKind}, {[]script.Command{{Op: -1}}, api.ErrKind}, {[]script.Command{{Op: 0, Nums: []int64{0}}}, api.ErrForm}, {[]script.Command{{Op: 0, Nums: []int64{0, 1}, Words: []string{"x"}}}, api.ErrForm}, {[]script.Command{{Op: 0, Nums: []int64{0, 1}}}, api.ErrRange}, {[]script.Command{calm}, api.ErrOrder}, {[]script.Command{screen, screen}, api.ErrOrder},
		{[]script.Command{screen, {Op: 1, Nums: []int64{0, 0}}}, api.ErrForm}, {[]script.Command{screen, {Op: 1, Nums: []int64{0, 0}, Words: []string{"plain", "raw"}}}, api.ErrForm}, {[]script.Command{screen, {Op: 5, Nums: []int64{1}, Words: []string{""}}}, api.ErrForm}, {[]script.Command{screen, {Op: 5, Nums: []int64{1}, Words: []string{"a b"}}}, api.ErrForm}, {[]script.Command{screen, {Op: 4, Nums: []int64{1, 1, 1}}}, api.ErrRange}, {[]script.Command{screen, {Op: 2, Nums: []int64{1, 1, 1 << 40}}}, api.ErrRange},
		{[]script.Command{screen, {Op: 5, Nums: []int64{1}, Words: []string{strings.Repeat("00", 33000)}}}, api.ErrLong}, {[]script.Command{screen, {Op: 5, Nums: []int64{1}, Words: []string{strings.Repeat("00", 33000)}}, {Op: 99}}, api.ErrKind}, {[]script.Command{screen, {Op: 5, Nums: []int64{1}, Words: []string{strings.Repeat("00", 32758)}}}, api.OK}, {[]script.Command{screen, {Op: 5, Nums: []int64{1}, Words: []string{strings.Repeat("00", 32758)}}, {Op: 9}}, api.ErrLong}, {[]script.Command{{Op: 0, Nums: []int64{10, 1}}, {Op: 5, Nums: []int64{1}, Words: []string{strings.Repeat("00", 32758)}}}, api.ErrLong}, {[]script.Command{screen, calm}, api.OK},
	} {
		s, e := script.Print(x.l...)
		if e != x.e || (s != "") != (e == api.OK) {
			t.Errorf("%d: %q, %d", i, s, e)
		}
	}
}
