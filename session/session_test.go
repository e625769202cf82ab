package session_test

import (
	"fmt"
	"math/rand"
	"slices"
	"strings"
	"testing"

	"glazier/api"
	"glazier/editor"
	"glazier/grid"
	"glazier/held"
	"glazier/place"
	"glazier/screen"
	"glazier/script"
	"glazier/session"
	"glazier/world"
)

func want[T comparable](t *testing.T, what string, got, wanted T) {
	t.Helper()
	if got != wanted {
		t.Errorf("%s: %v, wanted %v", what, got, wanted)
	}
}

// run plays a script, and tells its lines.
func run(t *testing.T, s string) []string {
	t.Helper()
	l, n, e := session.Run(s)
	if n != 0 || e != api.OK {
		t.Fatal(n, e)
	}
	return l
}

// answers holds a script's lines against what is wanted: each command, and behind an arrow its lines, parted by bars.
func answers(t *testing.T, s string) {
	t.Helper()
	var commands, wanted []string
	for _, line := range strings.Split(strings.TrimSpace(s), "\n") {
		command, lines, ok := strings.Cut(strings.TrimLeft(line, "\t"), " -> ")
		commands = append(commands, command)
		if ok {
			wanted = append(wanted, strings.Split(lines, " / ")...)
		}
	}
	got := run(t, strings.Join(commands, "\n"))
	for i := range max(len(got), len(wanted)) {
		if i >= len(got) || i >= len(wanted) || got[i] != wanted[i] {
			t.Fatalf("line %d:\n%s\nwanted\n%s", i, strings.Join(got, "\n"), strings.Join(wanted, "\n"))
		}
	}
}

// P64.2, P64.3: the chapter's example.
func TestExample(t *testing.T) {
	answers(t, `screen 4 2
		join plain 0 0 -> joined 1
		ask 1 58 -> ok
		turn 1 99 -> ok
		show -> 01010101 / 01010101`)
}

// P64.2: each command, and who it is nothing to.
func TestCommands(t *testing.T) {
	answers(t, `screen 8 6
		turn 1 5 -> none
		lose 1 0 -> none
		read 1 -> none
		text 1 -> none
		write 1 41 -> none
		bytes 1 - -> none
		ask 1 58 -> none
		hang 1 -> error 6
		join plain 1 0 -> joined 1
		join raw 0 0 -> joined 2
		ask 2 58 -> none
		bytes 1 00 -> none
		write 2 41 -> none
		text 1 -> none
		lose 1 0 -> none
		ask 1 2 -> error 14
		ask 1 99 -> error 10
		say 1 11 7469746c65 0 -> ok
		say 1 58 - -> ok
		row 1 13 5 1 8 4 8 0 97 98 -> ok
		ask 1 9 1 -> ok
		turn 1 3 -> ok
		read 1
		turn 1 65536 -> ok
		read 1 -> answer 11 1 8 / answer 9 4 0 0 0 8 6 1 1
		read 1
		ask 1 12 8 -> ok
		ask 1 16 1 -> ok
		ask 1 9 7 -> ok
		turn 1 65536 -> ok
		read 1 -> answer 12 5 text 7469746c65 / answer 16 6 row 8 / fault 3 7 7 9
		read 2 -> -
		bytes 2 6c0100003a -> ok
		turn 2 65536 -> ok
		bytes 2 0001000a000200 -> ok
		bytes 2 01000000 -> ok
		turn 2 65536 -> ok
		read 2 -> 010a020004000000000000000000000`+`0
		read 2 -> -
		input 9 0 0 0 0 -> error 10
		input 5 0 3 3 -1 -> error 18
		input 5 0 -3 300 7 -> ok
		hang 2 -> ok
		hang 2 -> error 6
		turn 2 5 -> ok
		join term 0 0 -> joined 2
		calm -> calm 3
		text 2 -> |             / |             / |             / |             / |            
		write 2 68690a -> ok
		calm -> calm 2
		text 2 -> |hi           / |             / |             / |             / |            
		audit -> ok`)
	s, e := session.New(5, 5)
	want(t, "New", e, api.OK)
	for _, x := range []struct {
		c script.Command
		l string
	}{
		{script.Command{Op: 0, Nums: []int64{5, 5}}, "error 9"}, {script.Command{Op: 0}, "error 9"}, {script.Command{Op: 16}, "error 10"}, {script.Command{Op: -1}, "error 10"}, {script.Command{Op: 6, Nums: []int64{1}}, "error 2"}, {script.Command{Op: 6, Nums: []int64{1, 0}}, "error 1"}, {script.Command{Op: 5, Nums: []int64{1}, Words: []string{strings.Repeat("0", 70000)}}, "error 4"}, {script.Command{Op: 14}, "calm 1"},
	} {
		want(t, "Do", strings.Join(s.Do(x.c), "/"), x.l)
	}
	for _, n := range [][2]int{{0, 5}, {5, 129}} {
		z, e := session.New(n[0], n[1])
		want(t, "New", z == nil && e == api.ErrSize, true)
		want(t, "nil", len(z.Do(script.Command{Op: 14})) == 0 && grid.Same(z.Screen(), grid.Grid{}) && !z.Server().Alive(1), true)
	}
	want(t, "Screen", screen.Text(s.Screen())[:11] == "0101010101\n" && s.Server().World().W == 5, true)
	for i := 1; i <= 8; i++ {
		want(t, "joined", strings.Join(s.Do(script.Command{Op: 1, Nums: []int64{0, 1}, Words: []string{"raw"}}), ""), fmt.Sprint("joined ", i))
	}
	want(t, "full", strings.Join(s.Do(script.Command{Op: 1, Nums: []int64{0, 1}, Words: []string{"raw"}}), ""), "error 12")
}

// P64.3
func TestRun(t *testing.T) {
	for _, x := range []struct {
		s string
		n int
		e api.Errno
	}{{"", 0, api.ErrEmpty}, {"screen 1 1\n\nwhat", 3, api.ErrName}, {"calm", 1, api.ErrOrder}, {"screen 1 1", 0, api.OK}} {
		l, n, e := session.Run(x.s)
		want(t, "Run", len(l) == 0 && n == x.n && e == x.e, true)
	}
}

// P64.1
func TestAudit(t *testing.T) {
	w, _ := world.New(4, 3, 7)
	want(t, "good", len(session.Audit(w)), 0)
	bad := w
	bad.Held, _ = bad.Held.Add(1, 1<<20+1, held.Window)
	want(t, "rules", slices.Equal(session.Audit(bad), []int{1, 6}), true)
	bad = w
	bad.In.Tree, _ = bad.In.Tree.Add(1<<20+1, 1)
	bad.Held, _ = bad.Held.Add(1, 1<<20+1, held.Window)
	bad.Clients[1] = true
	bad.Place, _ = bad.Place.Set(1<<20+1, place.Box{W: 2, H: 2, Mapped: true})
	bad.Canvas, _ = bad.Canvas.Open(1<<20+1, 2, 2, 9, true)
	want(t, "the screen", slices.Equal(session.Audit(bad), []int{4, 9}), true)
}

// Example 8 of the whole: a window manager that dies leaves the windows that it framed on the root, where they were.
func TestManager(t *testing.T) {
	for _, far := range []string{"0", "1"} {
		l := run(t, `screen 60 40
join manager 0 `+far+`
join plain 0 `+far+`
calm
ask 2 1 2097153 1 5 5 20 10 9 0 0
row 2 13 5 2097153 8 4 8 0 104 105
ask 2 3 2097153
calm
text 1
ask 2 9 2097153
calm
input 5 0 3 3 5
input 3 1 0 0 6
input 5 0 13 13 7
calm
input 4 1 0 0 8
calm
ask 2 10 1
ask 2 9 1048586
calm
read 2
audit
hang 1
calm
ask 2 9 2097153
calm
read 2
audit`)
		var told []string
		for _, line := range l {
			if !strings.HasPrefix(line, "calm") && line != "ok" && !strings.HasPrefix(line, "joined") {
				told = append(told, line)
			}
		}
		want(t, "a session with a manager, far "+far, strings.Join(told, "\n"), "2097153 1048586 hi\nanswer 9 4 1048586 1 9 20 10 1 1\nanswer 10 5 0 row 1048586\nanswer 9 6 1 10 10 22 20 1 1\nanswer 9 7 1 11 19 20 10 1 1")
	}
}

// An editor and a terminal, whose screens are their pictures; and a text that is copied and put in.
func TestApplications(t *testing.T) {
	s, _ := session.New(70, 40)
	do := func(line string) []string {
		l, _, e := script.Parse("screen 1 1\n" + line)
		if e != api.OK {
			t.Fatal(line)
		}
		return s.Do(l[1])
	}
	for _, l := range []string{"join editor 1 1", "join term 0 0", "calm", "hang 2", "calm"} {
		do(l)
	}
	for i, c := range []byte("Hi there") {
		do(fmt.Sprintf("input 1 %d 0 0 %d", c, 5+i))
		do(fmt.Sprintf("input 2 %d 0 0 %d", c, 5+i))
	}
	want(t, "calm", strings.HasPrefix(do("calm")[0], "calm"), true)
	want(t, "typed", do("text 1")[0], "4869207468657265")
	e, _, _ := editor.New(1, 60, 36, "")
	for _, c := range []byte("Hi there") {
		e, _ = e.Step(api.Out{Kind: api.Event, Code: api.EvKeyPress, N: []int64{1<<20 + 1, 0, int64(c), 0, 0, 0, 0, 0, 0}})
	}
	p := e.Picture()
	for x := range 60 {
		for y := range 36 {
			want(t, "the picture", s.Screen().At(x, y), p.At(x, y))
		}
	}
	do("input 1 250 0 0 20") // the mods 4
	for _, code := range []int{97, 99} {
		do(fmt.Sprintf("input 1 %d 0 0 21", code))
	}
	do("input 2 250 0 0 22")
	do("input 1 133 0 0 23")
	do("input 1 250 0 0 24")
	do("input 1 118 0 0 25")
	do("calm")
	want(t, "copied and put in", do("text 1")[0], "48692074686572654869207468657265")
	want(t, "audit", do("audit")[0], "ok")
}

// asks makes commands of a plain client, mostly of things that there are.
func asks(rnd *rand.Rand, client int) string {
	id := func() int { return client<<20 + 1 + rnd.Intn(6) }
	n := func(k int) int { return rnd.Intn(k) }
	switch rnd.Intn(14) {
	case 0, 1, 2:
		w := id()
		return fmt.Sprintf("ask %d 1 %d %d %d %d %d %d %d %d 0\nask %d 3 %d", client, w, []int{1, id()}[n(2)], n(20)-4, n(16)-4, 1+n(15), 1+n(12), n(256), n(2), client, w)
	case 3:
		return fmt.Sprintf("ask %d %d %d", client, []int{2, 3, 4, 9, 10, 18, 22}[n(7)], id())
	case 4:
		return fmt.Sprintf("ask %d 5 %d %d %d %d %d %d 0 %d", client, id(), n(32), n(20)-4, n(16)-4, 1+n(15), 1+n(12), n(5))
	case 5:
		return fmt.Sprintf("ask %d 7 %d 32 0 0 0 0 0 %d", client, []int{1, id()}[n(2)], n(8192)&^2052)
	case 6:
		return fmt.Sprintf("ask %d 19 %d\nask %d 20 %d 7 %d 255 %d 0 0", client, id(), client, id(), n(16), n(256))
	case 7, 8:
		return fmt.Sprintf("row %d 30 2 %d %d %d %d %d %d", client, id(), id(), n(9)-3, n(9)-3, n(9), n(9))
	case 9:
		return fmt.Sprintf("ask %d 27 %d %d %d %d %d %d %d %d %d 1", client, id(), id(), id(), n(5), n(5), n(5), n(5), 1+n(9), 1+n(9))
	case 10:
		return fmt.Sprintf("ask %d 17 %d %d %d %d", client, id(), 1+n(9), 1+n(9), n(256))
	case 11:
		return fmt.Sprintf("ask %d 39 %d %d %d %d %d 0\nask %d 40 0", client, id(), n(2), n(8192), n(2), n(2), client)
	case 12:
		return fmt.Sprintf("say %d 11 %02x61 0", client, 97+n(20))
	}
	return fmt.Sprintf("ask %d 6 %d %d %d %d", client, id(), []int{1, id()}[n(2)], n(9), n(9))
}

// P64.2: the ways of a pass, and that nothing comes to who is far but by one.
func TestPasses(t *testing.T) {
	answers(t, `screen 4 4
		join plain 0 1 -> joined 1
		ask 1 51 1 -> ok
		turn 1 99 -> ok
		lose 1 1 -> ok
		lose 1 0 -> ok
		turn 1 99 -> ok
		lose 1 0 -> ok
		read 1
		lose 1 4 -> ok
		lose 1 3 -> ok
		turn 1 99 -> ok
		read 1
		lose 1 4 -> ok
		turn 1 99 -> ok
		read 1
		lose 1 2 -> ok
		read 1 -> answer 51 1 0
		calm -> calm 1`)
}

// P64.4: behind any script the audit finds nothing, and its lines are the same again.
func TestAnyScript(t *testing.T) {
	for seed := range int64(12) {
		rnd := rand.New(rand.NewSource(seed))
		l := []string{"screen 24 18"}
		for _, kind := range []string{"plain", "manager", "plain", "raw", "term", "editor"} {
			l = append(l, fmt.Sprintf("join %s %d %d", kind, rnd.Intn(2), rnd.Intn(2)))
		}
		for i := range 160 {
			client := []int{1, 3}[rnd.Intn(2)]
			switch rnd.Intn(12) {
			case 0:
				l = append(l, fmt.Sprintf("input 5 0 %d %d %d", rnd.Intn(26)-1, rnd.Intn(20)-1, i))
			case 1:
				k := 1 + rnd.Intn(2)
				l = append(l, fmt.Sprintf("input 3 %d 0 0 %d\ninput 4 %d 0 0 %d", k, i, k, i))
			case 2:
				k := 97 + rnd.Intn(9)
				l = append(l, fmt.Sprintf("input 1 %d 0 0 %d\ninput 2 %d 0 0 %d", k, i, k, i))
			case 3:
				l = append(l, fmt.Sprintf("turn %d %d\nlose %d %d", 1+rnd.Intn(6), 1+rnd.Intn(300), 1+rnd.Intn(6), rnd.Intn(5)))
			case 4:
				l = append(l, "bytes 4 "+fmt.Sprintf("%02x%02x%02x", rnd.Intn(256), rnd.Intn(256), rnd.Intn(256)))
				if rnd.Intn(4) == 0 {
					l = append(l, "bytes 4 6c0100003a000100")
				}
			case 5:
				l = append(l, "write 5 "+fmt.Sprintf("%02x0a1b5b324a", 65+rnd.Intn(30)))
			case 6:
				if rnd.Intn(8) == 0 {
					l = append(l, fmt.Sprintf("hang %d\njoin plain 0 %d", client, rnd.Intn(2)))
				}
			case 7:
				l = append(l, "audit")
			default:
				l = append(l, asks(rnd, client))
			}
		}
		l = append(l, "calm", "audit", "show", "text 2", "text 5", "text 6", "read 1", "read 3", "read 4")
		text := strings.Join(l, "\n")
		one, two := run(t, text), run(t, text)
		want(t, "the same again", slices.Equal(one, two), true)
		for _, line := range one {
			if len(line) == 1 && line[0] >= '1' && line[0] <= '9' {
				t.Fatalf("seed %d: rule %s\n%s", seed, line, text)
			}
		}
		want(t, "calm", slices.ContainsFunc(one, func(s string) bool { return strings.HasPrefix(s, "calm") }), true)
	}
}

// P64.4, example 10 of the whole: a client that is far comes to what it would come to near, whatever is lost.
func TestFar(t *testing.T) {
	for seed := range int64(8) {
		rnd := rand.New(rand.NewSource(seed))
		var work []string
		for range 40 {
			work = append(work, asks(rnd, 1))
			if rnd.Intn(3) == 0 {
				work = append(work, fmt.Sprintf("turn 1 %d\nlose 1 %d\nlose 1 %d", 1+rnd.Intn(200), rnd.Intn(5), rnd.Intn(5)))
			}
		}
		var ends [2][]string
		for far := range 2 {
			s := fmt.Sprintf("screen 24 18\njoin plain 0 %d\n%s\ncalm\nread 1\nshow\naudit", far, strings.Join(work, "\n"))
			l := run(t, s)
			i := slices.IndexFunc(l, func(s string) bool { return strings.HasPrefix(s, "calm") })
			ends[far] = l[i+1:]
		}
		if !slices.Equal(ends[0], ends[1]) {
			t.Fatalf("seed %d:\n%s\n\n%s", seed, strings.Join(ends[0], "\n"), strings.Join(ends[1], "\n"))
		}
	}
}
