package record_test

import (
	"maps"
	"slices"
	"strings"
	"testing"

	"glazier/api"
	"glazier/pack"
	"glazier/record"
	"glazier/server"
	"glazier/stream"
)

func want[T comparable](t *testing.T, what string, got, wanted T) {
	t.Helper()
	if got != wanted {
		t.Errorf("%s: %v, wanted %v", what, got, wanted)
	}
}

func of(t *testing.T, l ...record.Entry) record.Tape {
	t.Helper()
	var tape record.Tape
	for _, e := range l {
		var err api.Errno
		tape, err = tape.Add(e)
		want(t, "Add", err, api.OK)
	}
	return tape
}

var example = []record.Entry{{Kind: 0}, {Kind: 1, Client: 1, Bytes: "l\x01"}, {Kind: 2, Input: api.Input{Kind: 5, X: 2, Y: -1, Time: 7}}, {Kind: 3, Client: 8}, {Kind: 1, Client: 2}, {Kind: 4, Client: 3}}

// P62.1, P62.4: the chapter's example.
func TestText(t *testing.T) {
	tape := of(t, example...)
	want(t, "Text", tape.Text(), "0\n1 1 6c01\n2 5 0 2 -1 7\n3 8\n1 2 -\n4 3\n")
	want(t, "All", slices.Equal(tape.All(), example), true)
	tape.All()[0].Kind = 4
	want(t, "new memory", tape.All()[0].Kind, 0)
	back, n, e := record.Read(tape.Text())
	want(t, "Read", n == 0 && e == api.OK && slices.Equal(back.All(), example), true)
	back, n, e = record.Read("")
	want(t, "empty", n == 0 && e == api.OK && len(back.All()) == 0 && back.Text() == "", true)
	all := make([]byte, 256)
	for i := range all {
		all[i] = byte(i)
	}
	one := of(t, record.Entry{Kind: 1, Client: 1, Bytes: string(all)}, record.Entry{Kind: 2, Input: api.Input{Kind: 1, Code: 255, X: -32768, Y: 32767, Time: 1<<31 - 1}})
	back, _, _ = record.Read(one.Text())
	want(t, "all bytes", slices.Equal(back.All(), one.All()), true)
}

// P62.1: what is refused, in order.
func TestAdd(t *testing.T) {
	in := api.Input{Kind: 9}
	long := strings.Repeat("a", 65537)
	for _, x := range []struct {
		e   record.Entry
		err api.Errno
	}{
		{record.Entry{Kind: 5, Client: 9}, api.ErrKind}, {record.Entry{Kind: -1}, api.ErrKind}, {record.Entry{Kind: 0, Client: 1, Bytes: long}, api.ErrRange}, {record.Entry{Kind: 2, Client: 1}, api.ErrRange}, {record.Entry{Kind: 1, Client: 0}, api.ErrRange}, {record.Entry{Kind: 3, Client: 9}, api.ErrRange}, {record.Entry{Kind: 4, Client: -1}, api.ErrRange}, {record.Entry{Kind: 1, Client: 1, Bytes: long, Input: in}, api.ErrLong}, {record.Entry{Kind: 0, Bytes: long}, api.ErrLong},
		{record.Entry{Kind: 0, Bytes: "a"}, api.ErrForm}, {record.Entry{Kind: 2, Bytes: "a", Input: in}, api.ErrForm}, {record.Entry{Kind: 1, Client: 1, Input: in}, api.ErrForm}, {record.Entry{Kind: 3, Client: 1, Bytes: "a"}, api.ErrForm}, {record.Entry{Kind: 2}, api.ErrValue}, {record.Entry{Kind: 2, Input: in}, api.ErrValue}, {record.Entry{Kind: 2, Input: api.Input{Kind: 1, Code: 256}}, api.ErrValue}, {record.Entry{Kind: 2, Input: api.Input{Kind: 1, Code: -1}}, api.ErrValue},
		{record.Entry{Kind: 2, Input: api.Input{Kind: 1, X: 32768}}, api.ErrValue}, {record.Entry{Kind: 2, Input: api.Input{Kind: 1, Y: -32769}}, api.ErrValue}, {record.Entry{Kind: 2, Input: api.Input{Kind: 1, Time: 1 << 31}}, api.ErrValue}, {record.Entry{Kind: 2, Input: api.Input{Kind: 1, Count: 1}}, api.ErrValue}, {record.Entry{Kind: 1, Client: 8, Bytes: long[1:]}, api.OK},
	} {
		tape := of(t, example...)
		u, err := tape.Add(x.e)
		want(t, "Add", err, x.err)
		want(t, "as it was", len(u.All()) == 6, err != api.OK)
		s, _ := server.New(4, 4, 0)
		_, m, f := record.Play(s, record.Entry{}, x.e)
		want(t, "Play", f == x.err && (f == api.OK || m == nil), true)
	}
	full, _, _ := record.Read(strings.Repeat("0\n", 8192))
	_, err := full.Add(record.Entry{})
	want(t, "full", err, api.ErrFull)
	_, err = full.Add(record.Entry{Kind: 9})
	want(t, "kind first", err, api.ErrKind)
	// Two tapes made of one.
	one := of(t, example...)
	a, _ := one.Add(record.Entry{Kind: 4, Client: 1})
	b, _ := one.Add(record.Entry{Kind: 4, Client: 2})
	want(t, "values", a.All()[6].Client*10+b.All()[6].Client, 12)
}

// P62.2
func TestRead(t *testing.T) {
	for _, x := range []struct {
		s   string
		n   int
		err api.Errno
	}{
		{strings.Repeat("0\n", 1<<23) + "x", 0, api.ErrLong}, {strings.Repeat("0\n", 1<<23), 8193, api.ErrFull}, {"0", 1, api.ErrForm}, {"0\n\n", 2, api.ErrForm}, {"5\n", 1, api.ErrForm}, {"0\n1 1\n", 2, api.ErrForm}, {"1 1 6C\n", 1, api.ErrForm}, {"1 1 6\n", 1, api.ErrForm}, {"1 1 \n", 1, api.ErrForm}, {"1 9 -\n", 1, api.ErrForm}, {"1 0 -\n", 1, api.ErrForm}, {"01 1 -\n", 1, api.ErrForm}, {"1  1 -\n", 1, api.ErrForm}, {"1 1 - \n", 1, api.ErrForm}, {"1 1 " + strings.Repeat("61", 65537) + "\n", 1, api.ErrForm},
		{"2 5 0 2 -1 07\n", 1, api.ErrForm}, {"2 5 0 2 -0 7\n", 1, api.ErrForm}, {"2 5 0 2 +1 7\n", 1, api.ErrForm}, {"2 5 0 2 1 7 0\n", 1, api.ErrForm}, {"2 5 0 2 1\n", 1, api.ErrForm}, {"2 6 0 2 1 7\n", 1, api.ErrForm}, {"2 5 0 2 1 2147483648\n", 1, api.ErrForm}, {"2 5 0 2 1 4294967303\n", 1, api.ErrForm}, {"2 5 0 2 1 -1\n", 1, api.ErrForm}, {"3 1 2\n", 1, api.ErrForm}, {"0 1\n", 1, api.ErrForm}, {"-1\n", 1, api.ErrForm}, {"0\r\n", 1, api.ErrForm},
		{strings.Repeat("0\n", 8193), 8193, api.ErrFull}, {strings.Repeat("0\n", 8192) + "x\n", 8193, api.ErrForm}, {strings.Repeat("0\n", 8192), 0, api.OK},
	} {
		tape, n, err := record.Read(x.s)
		want(t, "line", n, x.n)
		want(t, "Read", err, x.err)
		want(t, "zero", len(tape.All()) > 0, err == api.OK)
	}
}

// P62.3, P62.4
func TestPlay(t *testing.T) {
	s, _ := server.New(8, 8, 0)
	bytes := func(code int, text string, n ...int64) string {
		b, _ := pack.Put(0, api.Request{Code: code, N: n, B: text})
		return b
	}
	l := []record.Entry{{}, {}, {Kind: 1, Client: 5, Bytes: "lost"}, {Kind: 1, Client: 1, Bytes: stream.Begin(0) + bytes(7, "", 1, 32, 0, 0, 0, 0, 0, 1) + bytes(11, "x", 0)}, {Kind: 1, Client: 2, Bytes: stream.Begin(0) + bytes(10, "", 1)}, {Kind: 3, Client: 1}, {Kind: 3, Client: 3}, {Kind: 2, Input: api.Input{Kind: 1, Code: 65, Time: 5}}, {Kind: 2, Input: api.Input{Kind: 1, Code: 0, Time: 5}}, {Kind: 3, Client: 1}, {Kind: 4, Client: 2}, {Kind: 4, Client: 2}, {Kind: 3, Client: 2}, {}}
	end, all, e := record.Play(s, l...)
	want(t, "Play", e == api.OK && len(all) == 1 && len(all[1]) == 12+8+24 && end.Alive(2) && end.Queued(2) == 0 && !s.Alive(1), true)
	for i := range l {
		one, first, _ := record.Play(s, l[:i]...)
		two, second, _ := record.Play(one, l[i:]...)
		both := map[int]string{}
		for _, m := range []map[int]string{first, second} {
			for c, b := range m {
				both[c] += b
			}
		}
		want(t, "in two parts", two.World().Text() == end.World().Text() && maps.Equal(both, all), true)
	}
	again, twice, _ := record.Play(s, l...)
	want(t, "twice", again.World().Text() == end.World().Text() && maps.Equal(twice, all), true)
	none, m, e := record.Play(s)
	want(t, "nothing", e == api.OK && len(m) == 0 && none.World().Text() == s.World().Text(), true)
}
