package server_test

import (
	"math/rand"
	"strings"
	"testing"

	"glazier/api"
	"glazier/pack"
	"glazier/server"
	"glazier/stream"
	"glazier/tell"
	"glazier/told"
)

func want[T comparable](t *testing.T, what string, got, wanted T) {
	t.Helper()
	if got != wanted {
		t.Errorf("%s: %v, wanted %v", what, got, wanted)
	}
}

func connected(t *testing.T, n int) server.Server {
	t.Helper()
	s, e := server.New(8, 8, 0)
	want(t, "New", e, api.OK)
	for i := 1; i <= n; i++ {
		var c int
		s, c, e = s.Connect()
		want(t, "Connect", c == i && e == api.OK, true)
	}
	return s
}

func request(code int, text string, n ...int64) string {
	b, e := pack.Put(0, api.Request{Code: code, N: n, B: text})
	if e != api.OK {
		panic(e)
	}
	return b
}

func feed(t *testing.T, s server.Server, client int, b string) server.Server {
	t.Helper()
	s, e := s.Feed(client, b)
	want(t, "Feed", e, api.OK)
	if broken := s.World().Check(); len(broken) > 0 {
		t.Errorf("rules %v", broken)
	}
	return s
}

// all takes a client's queue, and tells it with the numbers.
func all(t *testing.T, s server.Server, client int) (server.Server, string) {
	t.Helper()
	s, b := s.Take(client, 1<<30)
	var l []string
	for b != "" {
		o, n, e := tell.Get(0, b)
		if e != api.OK {
			t.Fatal(e)
		}
		l = append(l, "#"+string(rune('0'+o.Seq%10))+" "+told.Out(o))
		b = b[n:]
	}
	return s, strings.Join(l, "; ")
}

const (
	a      = 1<<20 + 1
	title  = "l\x01\x00\x00\x0b\x00\x05\x00\x00\x00\x00\x00\x05\x00\x00\x00title\x00\x00\x00"
	answer = "\x01\x0b\x01\x00\x03\x00\x00\x00\x08\x00\x00\x00"
)

// P51.1, P51.3
func TestConnect(t *testing.T) {
	_, e := server.New(0, 8, 0)
	want(t, "New", e, api.ErrSize)
	var z server.Server
	_, c, e := z.Connect()
	want(t, "zero", c == 0 && e == api.ErrState, true)
	_, e = z.Input(api.Input{Kind: 99})
	want(t, "zero", e == api.ErrState && !z.Alive(1) && z.World().W == 0, true)
	_, e = z.Feed(1, "")
	want(t, "zero", e, api.ErrNone)
	s := connected(t, 8)
	_, c, e = s.Connect()
	want(t, "full", c == 0 && e == api.ErrFull, true)
	s, e = s.Hang(3)
	want(t, "Hang", e == api.OK && !s.Alive(3) && s.Alive(4) && !s.World().Clients[3], true)
	s, c, _ = s.Connect()
	want(t, "the least one", c == 3 && s.World().Clients[3], true)
	for _, c := range []int{0, 9, -1} {
		_, e = s.Hang(c)
		_, f := s.Feed(c, "x")
		_, b := s.Take(c, 5)
		want(t, "nobody", e == api.ErrNone && f == api.ErrNone && b == "" && !s.Alive(c) && s.Sent(c) == 0 && s.Queued(c) == 0, true)
	}
	w := s.World()
	w.Clients[5] = false
	want(t, "its own", s.World().Clients[5], true)
}

// P51.2, P51.3: the chapter's example, faults, and numbers.
func TestFeed(t *testing.T) {
	s := feed(t, connected(t, 1), 1, title)
	want(t, "Queued", s.Queued(1)*10+s.Sent(1), 121)
	u, b := s.Take(1, 5)
	u, c := u.Take(1, 5)
	u, d := u.Take(1, 99)
	want(t, "Take", b+c+d == answer && len(b) == 5 && len(c) == 5 && u.Queued(1) == 0 && s.Queued(1) == 12, true)
	_, b = s.Take(1, 0)
	_, c = s.Take(1, -5)
	want(t, "Take", b+c, "")
	s = feed(t, u, 1, "\x63\x00\x01\x00"+"\x02\x00\x03\x00\x01\x00\x00\x00\x00\x00\x00\x00"+request(10, "", 1)+request(12, "", 99))
	s, l := all(t, s, 1)
	want(t, "said", l, "#2 fault 1 99 99; #3 fault 16 0 2; #4 answer 10 0; #5 fault 5 99 12")
	want(t, "Sent", s.Sent(1), 5)
	// A dead stream: what stood ahead of it is done, then the client is cut off.
	s = feed(t, s, 1, request(11, "more", 0)+"\x3a\x00\x00\x00")
	_, has, _ := s.World().Atoms.Intern("more", true)
	want(t, "cut off", s.Alive(1) || s.Queued(1) > 0 || s.World().Clients[1] || has != 11, false)
	s = feed(t, connected(t, 1), 1, "what")
	want(t, "no beginning", s.Alive(1), false)
	big := feed(t, connected(t, 1), 1, "B\x01\x00\x00\x3a\x00\x00\x01\x33\x00\x00\x02\x00\x00\x00\x01")
	_, b = big.Take(1, 99)
	want(t, "Big", b, "\x01\x33\x00\x02\x00\x00\x00\x03\x00\x00\x00\x00")
}

// P51.2: who isn't open waits, and loses nothing.
func TestWaits(t *testing.T) {
	s := connected(t, 3)
	for c := 1; c <= 3; c++ {
		s = feed(t, s, c, stream.Begin(0))
	}
	s = feed(t, s, 2, request(7, "", 1, 32, 0, 0, 0, 0, 0, 2048)+request(56, ""))
	s = feed(t, s, 3, request(11, "three", 0))
	s = feed(t, s, 1, request(11, "one", 0))
	want(t, "waits", s.World().Atoms.Len() == 10 && s.Sent(1)+s.Sent(3) == 0, true)
	u, e := s.Feed(1, strings.Repeat("x", 65537-len(request(11, "one", 0))))
	want(t, "full", e == api.ErrFull && u.World().Text() == s.World().Text(), true)
	_, e = s.Feed(1, strings.Repeat("x", 65536-len(request(11, "one", 0))))
	want(t, "not full", e, api.OK)
	u = feed(t, s, 2, request(57, ""))
	want(t, "done, the least one first", strings.Join(u.World().Atoms.All()[10:], " "), "one three")
	u, e = s.Hang(2)
	want(t, "done behind a death", e == api.OK && strings.Join(u.World().Atoms.All()[10:], " ") == "one three", true)
	u, e = s.Hang(1)
	w8 := connected(t, 8)
	w8 = feed(t, feed(t, w8, 1, stream.Begin(0)), 8, stream.Begin(0)+request(7, "", 1, 32, 0, 0, 0, 0, 0, 2048))
	w8 = feed(t, w8, 8, request(56, ""))
	w8 = feed(t, w8, 1, request(11, "one", 0))
	w8 = feed(t, w8, 8, request(57, ""))
	want(t, "client 8", w8.World().Atoms.Len(), 11)
	w8 = feed(t, w8, 1, request(58, ""))
	w8 = feed(t, w8, 8, request(11, "eight", 0))
	one, b := w8.Take(1, 1)
	want(t, "one byte", len(b) == 1 && one.Queued(1) == w8.Queued(1)-1 && w8.World().Atoms.Len() == 12, true)
	want(t, "gone with all that waits", e == api.OK && u.World().Atoms.Len() == 10, true)
}

// P51.2, P51.4: who doesn't read is cut off; others go on.
func TestFull(t *testing.T) {
	s := connected(t, 2)
	s = feed(t, s, 1, stream.Begin(0)+request(1, "", a, 1, 0, 0, 8, 8, 0, 0, 0)+request(3, "", a))
	s = feed(t, s, 2, stream.Begin(1))
	for s.Queued(1)+12 <= 65536 {
		s = feed(t, s, 1, strings.Repeat(request(51, "", 1), 100))
		if !s.Alive(1) {
			break
		}
	}
	want(t, "cut off", s.Alive(1) || s.World().In.Tree.Has(a) || s.World().Clients[1], false)
	want(t, "the other one", s.Alive(2), true)
	s = connected(t, 1)
	s = feed(t, s, 1, stream.Begin(0)+strings.Repeat(request(51, "", 1), 5460)+request(51, "", 99))
	want(t, "just full", s.Queued(1), 65536)
	s = feed(t, s, 1, request(51, "", 1))
	want(t, "too full", s.Alive(1), false)
	s = connected(t, 1)
	s = feed(t, s, 1, stream.Begin(0)+strings.Repeat(request(51, "", 1), 5461))
	want(t, "not yet", s.Queued(1), 65532)
	s = feed(t, s, 1, request(58, "")+request(51, "", 1)+request(58, ""))
	want(t, "one more", s.Alive(1), false)
}

// P51.1, P51.2: inputs, events, and clients that are killed.
func TestInput(t *testing.T) {
	s := connected(t, 3)
	s = feed(t, s, 1, stream.Begin(0)+request(7, "", 1, 32, 0, 0, 0, 0, 0, 1)+request(58, ""))
	s, e := s.Input(api.Input{Kind: api.EvKeyPress, Code: 65, Time: 7})
	want(t, "Input", e, api.OK)
	s, l := all(t, s, 1)
	want(t, "said", l, "#2 event 1 1 0 65 0 4 4 4 4 7")
	u, e := s.Input(api.Input{Kind: api.EvKeyPress, Code: 0})
	want(t, "Input", e == api.ErrRange && u.World().Text() == s.World().Text(), true)
	// Nothing is said to who hasn't begun.
	s = feed(t, s, 2, stream.Begin(0)+request(7, "", 1, 32, 0, 0, 0, 0, 0, 2048+1024)+request(58, ""))
	s = feed(t, s, 3, stream.Begin(0)+request(1, "", 3<<20+1, 1, 0, 0, 1, 1, 0, 0, 0))
	s = feed(t, s, 2, request(55, "", 3<<20+1)+request(58, ""))
	s, l = all(t, s, 2)
	want(t, "killed", l == "#2 event 13 1 3145729 0 0 1 1 0; #3 event 14 1 3145729" && !s.Alive(3) && s.Sent(2) == 4, true)
}

// P51.4: in whatever parts bytes come, and are taken.
func TestParts(t *testing.T) {
	rnd := rand.New(rand.NewSource(2))
	b := stream.Begin(0) + request(1, "", a, 1, 1, 1, 4, 4, 9, 0, 0) + request(3, "", a) + "\x63\x00\x01\x00" + request(7, "", a, 32, 0, 0, 0, 0, 0, 256+512) + request(4, "", a) + request(3, "", a) + request(9, "", a) + request(11, "x", 0)
	whole := feed(t, connected(t, 2), 1, b)
	text := whole.World().Text()
	_, out := whole.Take(1, 1<<30)
	for range 50 {
		s, rest, got := connected(t, 2), b, ""
		for rest != "" {
			n := 1 + rnd.Intn(min(9, len(rest)))
			s = feed(t, s, 1, rest[:n])
			rest = rest[n:]
			var p string
			s, p = s.Take(1, rnd.Intn(20))
			got += p
		}
		_, p := s.Take(1, 1<<30)
		want(t, "the same", got+p == out && s.World().Text() == text && s.Sent(1) == whole.Sent(1), true)
	}
}

// P4, P51.4: whatever bytes come, the others' things are as they were.
func TestHostile(t *testing.T) {
	rnd := rand.New(rand.NewSource(5))
	s := connected(t, 2)
	s = feed(t, s, 2, stream.Begin(0)+request(1, "", 2<<20+1, 1, 1, 1, 4, 4, 9, 1, 0)+request(3, "", 2<<20+1))
	for range 300 {
		n := make([]byte, rnd.Intn(40))
		rnd.Read(n)
		b := string(n)
		if rnd.Intn(2) == 0 {
			code := 1 + rnd.Intn(60)
			b = string([]byte{byte(code), 0, byte(1 + rnd.Intn(8)), 0}) + b
		}
		if !s.Alive(1) {
			s, _, _ = s.Connect()
			s = feed(t, s, 1, stream.Begin(0))
		}
		s = feed(t, s, 1, b)
		want(t, "its window", s.Alive(2) && s.World().In.Tree.Has(2<<20+1), true)
	}
}
