package cache_test

import (
	"math/rand"
	"strings"
	"testing"

	"glazier/api"
	"glazier/cache"
)

func want[T comparable](t *testing.T, what string, got, wanted T) {
	t.Helper()
	if got != wanted {
		t.Errorf("%s: %v, wanted %v", what, got, wanted)
	}
}

func of(t *testing.T, kept int, l ...string) cache.Cache {
	t.Helper()
	c, e := cache.New(kept)
	want(t, "New", e, api.OK)
	for _, b := range l {
		c, _, e = c.Put(b)
		want(t, "Put", e, api.OK)
	}
	return c
}

// P59.1: the chapter's example.
func TestExample(t *testing.T) {
	c := of(t, 2)
	for _, x := range [][2]string{{"abcdefgh", "\x00abcdefgh"}, {"abXdefgh", "\x02\x00\x00\x02X"}, {"abcdefgh", "\x01\x01"}, {"zz", "\x00zz"}, {"abXdefgh", "\x02\x01\x00\x02X"}} {
		d, s, e := c.Put(x[0])
		want(t, "Put", s, x[1])
		g, b, f := c.Get(x[1])
		want(t, "Get", b == x[0] && e == api.OK && f == api.OK && g.Mark() == d.Mark() && g.Len() == d.Len(), true)
		c = d
	}
	want(t, "Len", c.Len(), 2)
}

// P59.1: which one is taken, and when it is worth it.
func TestAlmost(t *testing.T) {
	c := of(t, 9, "aaaaaaaa", "aaaabbbb", "bbbbbbbb")
	for _, x := range [][2]string{{"aaaaaaab", "\x02\x02\x00\x07b"}, {"aaaaaabb", "\x02\x01\x00\x04a\x00\x05a"}, {"bbbbbbba", "\x02\x00\x00\x07a"}, {"bbbbabab", "\x02\x00\x00\x04a\x00\x06a"}, {"ccbbbbbc", "\x00ccbbbbbc"}, {"", "\x00"}, {"b", "\x00b"}} {
		_, s, _ := c.Put(x[0])
		want(t, x[0], s, x[1])
	}
	// 2 and 3 n against 1 and the length: 5 of 5 isn't less than 6 of 5.
	d := of(t, 2, "abcde", "abcd")
	_, s, _ := d.Put("abcdX")
	want(t, "just worth it", s, "\x02\x01\x00\x04X")
	_, s, _ = d.Put("abcX")
	want(t, "not worth it", s, "\x00abcX")
	long := strings.Repeat("x", 65535)
	_, s, _ = of(t, 2, long+"a").Put(long + "b")
	want(t, "far", s, "\x02\x00\xff\xffb")
	_, back, e := of(t, 2, long+"a").Get(s)
	want(t, "far and back", back == long+"b" && e == api.OK, true)
	want(t, "twice the same", of(t, 3, "a", "a", "b", "b").Len(), 2)
	twice, _, _ := of(t, 3, "a", "b").Put("b")
	want(t, "the first one again", twice.Mark() == of(t, 3, "a", "b").Mark(), true)
}

// P59.1: what is refused, in order.
func TestRefused(t *testing.T) {
	for _, n := range []int{0, -1, 65} {
		c, e := cache.New(n)
		_, _, f := c.Put("a")
		_, _, g := c.Get("")
		want(t, "New", e == api.ErrRange && f == api.ErrState && g == api.ErrState, true)
	}
	c := of(t, 64, "abc", "xyz")
	d, s, e := c.Put(strings.Repeat("a", 65537))
	want(t, "Put", e == api.ErrLong && s == "" && d.Mark() == c.Mark(), true)
	for _, x := range []struct {
		s string
		e api.Errno
	}{
		{"", api.ErrEmpty}, {"\x03", api.ErrKind}, {"\x00" + strings.Repeat("a", 65537), api.ErrLong}, {"\x00" + strings.Repeat("a", 65536), api.OK}, {"\x01", api.ErrForm}, {"\x01\x09\x00", api.ErrForm}, {"\x01\x02", api.ErrNone}, {"\x01\x01", api.OK}, {"\x02", api.ErrShort}, {"\x02\x02", api.ErrNone}, {"\x02\x01", api.ErrForm}, {"\x02\x01\x00\x01", api.ErrForm},
		{"\x02\x01\x00\x01X\x00\x01Y", api.ErrOrder}, {"\x02\x01\x00\x01X\x00\x00Y", api.ErrOrder}, {"\x02\x01\x00\x03X", api.ErrRange}, {"\x02\x01\x00\x01b", api.ErrValue}, {"\x02\x01\x00\x00X\x00\x01Y\x00\x02Z", api.OK},
	} {
		d, b, e := c.Get(x.s)
		want(t, "Get", e, x.e)
		want(t, "as it was", b == "" && d.Mark() == c.Mark(), e != api.OK)
	}
}

// P59.2
func TestMark(t *testing.T) {
	want(t, "none", of(t, 2).Mark(), 0)
	want(t, "one", of(t, 2, "ab").Mark(), ((98*257+99)*257)%1000000007)
	want(t, "two", of(t, 2, "ab", "").Mark(), ((98*257+99)*257)%1000000007)
	want(t, "order", of(t, 2, "a", "b").Mark() == of(t, 2, "b", "a").Mark(), false)
	want(t, "values", of(t, 3, "a", "b").Len()+of(t, 1, "a", "b", "c").Len(), 3)
}

// P59.3
func TestThereAndBack(t *testing.T) {
	rnd := rand.New(rand.NewSource(1))
	for kept := 1; kept < 10; kept++ {
		a, b := of(t, kept), of(t, kept)
		for range 300 {
			m := make([]byte, rnd.Intn(14))
			for i := range m {
				m[i] = "aaab"[rnd.Intn(4)]
			}
			was := a.Mark()
			u, s, e := a.Put(string(m))
			v, got, f := b.Get(s)
			want(t, "got", e == api.OK && f == api.OK && got == string(m) && u.Mark() == v.Mark() && a.Mark() == was, true)
			want(t, "length", len(s) <= len(m)+1 || len(m) == 0 && len(s) == 2, true)
			a, b = u, v
		}
	}
}
