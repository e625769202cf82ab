package session

import (
	"slices"
	"strconv"
	"strings"

	"glazier/api"
	"glazier/screen"
	"glazier/script"
	"glazier/term"
)

const (
	opScreen = 0
	fixedAt  = 2
	done     = "ok"
	nothing  = "none"
)

// deed does a command, and tells its lines.
type deed func(s *Session, c script.Command) []string

// deeds tells what commands do, by their names.
func deeds() map[string]deed {
	return map[string]deed{
		"screen": func(*Session, script.Command) []string { return failed(api.ErrState) },
		"join":   (*Session).join,
		"ask":    func(s *Session, c script.Command) []string { return s.ask(c, c.Nums[2:], "", nil) },
		"say":    func(s *Session, c script.Command) []string { return s.ask(c, c.Nums[2:], unhex(c.Words[0]), nil) },
		"row": func(s *Session, c script.Command) []string {
			rest := c.Nums[fixedAt+1:]
			n := int(c.Nums[fixedAt])
			return s.ask(c, rest[:n], "", rest[n:])
		},
		"bytes": (*Session).bytes,
		"turn": func(s *Session, c script.Command) []string {
			return s.with(c, func(g *guest) bool { return g.kind != "" }, func(g *guest) { s.turn(client(c), int(c.Nums[1])) })
		},
		"lose": func(s *Session, c script.Command) []string {
			return s.with(c, func(g *guest) bool { return g.far }, func(g *guest) { s.pass(client(c), int(c.Nums[1])) })
		},
		"input": (*Session).input,
		"hang":  (*Session).hang,
		"write": (*Session).write,
		"show":  (*Session).show,
		"read":  (*Session).read,
		"text":  (*Session).text,
		"calm":  (*Session).calmed,
		"audit": (*Session).audit,
	}
}

// failed tells an error's line.
func failed(e api.Errno) []string { return []string{"error " + strconv.Itoa(int(e))} }

// told tells an error's line, or that all is well.
func told(e api.Errno) []string {
	if e != api.OK {
		return failed(e)
	}
	return []string{done}
}

// client tells the client that a command names.
func client(c script.Command) int { return int(c.Nums[0]) }

func unhex(s string) string {
	var b []byte
	for i := 0; i+1 < len(s); i += 2 {
		b = append(b, byte(strings.IndexByte(digits, s[i])<<4|strings.IndexByte(digits, s[i+1])))
	}
	return string(b)
}

// Do tells what a command says, in lines.
func (s *Session) Do(c script.Command) []string {
	if s == nil {
		return nil
	}
	if c.Op != opScreen {
		first := script.Command{Op: opScreen, Nums: []int64{1, 1}}
		if _, e := script.Print(first, c); e != api.OK {
			return failed(e)
		}
	}
	return deeds()[script.Name(c.Op)](s, c)
}

// with does something with what joined as a client, if that is so.
func (s *Session) with(c script.Command, so func(g *guest) bool, does func(g *guest)) []string {
	g := &s.guests[client(c)]
	if !so(g) {
		return []string{nothing}
	}
	does(g)
	return []string{done}
}

func (s *Session) join(c script.Command) []string {
	t, n, e := s.server.Connect()
	if e != api.OK {
		return failed(e)
	}
	s.server = t
	s.guests[n] = newGuest(c.Words[0], n, int(c.Nums[0]), c.Nums[1] == 1, s.w, s.h)
	return []string{"joined " + strconv.Itoa(n)}
}

// ask asks a request of a plain client.
func (s *Session) ask(c script.Command, n []int64, text string, row []int64) []string {
	g := &s.guests[client(c)]
	if g.kind != plainGuest {
		return []string{nothing}
	}
	r := api.Request{Code: int(c.Nums[1]), N: slices.Clone(n), B: text, L: slices.Clone(row)}
	var e api.Errno
	*g, e = g.ask(r)
	return told(e)
}

func (s *Session) bytes(c script.Command) []string {
	return s.with(c, func(g *guest) bool { return g.kind == rawGuest }, func(g *guest) { g.toGo += unhex(c.Words[0]) })
}

func (s *Session) input(c script.Command) []string {
	n := c.Nums
	t, e := s.server.Input(api.Input{Kind: int(n[0]), Code: int(n[1]), X: int(n[2]), Y: int(n[3]), Time: uint32(n[4])})
	s.server = t
	return told(e)
}

func (s *Session) hang(c script.Command) []string {
	t, e := s.server.Hang(client(c))
	s.server = t
	return told(e)
}

func (s *Session) write(c script.Command) []string {
	return s.with(c, func(g *guest) bool { return g.kind == termGuest }, func(g *guest) {
		var t term.Term
		var l []api.Request
		t, l = g.term.Write(unhex(c.Words[0]))
		g.term = t
		*g, _ = g.ask(l...)
	})
}

func (s *Session) show(script.Command) []string {
	return strings.Split(strings.TrimSuffix(screen.Text(s.Screen()), "\n"), "\n")
}

func (s *Session) read(c script.Command) []string {
	g := &s.guests[client(c)]
	var l []string
	switch g.kind {
	case plainGuest:
		l = g.lines
	case rawGuest:
		l = []string{hexOrNone(g.raw)}
	default:
		return []string{nothing}
	}
	g.lines, g.raw = nil, ""
	return l
}

func (s *Session) text(c script.Command) []string {
	l, ok := s.guests[client(c)].text()
	if !ok {
		return []string{nothing}
	}
	return l
}

func (s *Session) calmed(script.Command) []string {
	n, ok := s.calm()
	if !ok {
		return []string{"restless"}
	}
	return []string{"calm " + strconv.Itoa(n)}
}

func (s *Session) audit(script.Command) []string {
	broken := Audit(s.server.World())
	if len(broken) == 0 {
		return []string{done}
	}
	var l []string
	for _, n := range broken {
		l = append(l, strconv.Itoa(n))
	}
	return l
}
