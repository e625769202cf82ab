package session

import (
	"strconv"
	"strings"

	"glazier/api"
	"glazier/editor"
	"glazier/manager"
	"glazier/proxy"
	"glazier/stub"
	"glazier/term"
)

const (
	kept         = 16
	mostPacket   = 64
	editorW      = 60
	editorH      = 36
	termColumns  = 12
	termRows     = 5
	digits       = "0123456789abcdef"
	noBytes      = "-"
	plainGuest   = "plain"
	managerGuest = "manager"
	editorGuest  = "editor"
	termGuest    = "term"
	rawGuest     = "raw"
)

// guest is what joined as a client; its kind is empty, if nothing did.
type guest struct {
	kind         string
	order        int
	far          bool
	near, beside proxy.Half // beside the client, beside the server
	toGo         string
	stub         stub.Stub
	manager      manager.Manager
	editor       editor.Editor
	term         term.Term
	lines        []string
	raw          string
}

// newGuest tells what joins as a client, on a screen of that size.
func newGuest(kind string, client, order int, far bool, w, h int) guest {
	g := guest{kind: kind, order: order, far: far}
	if far {
		g.near, _ = proxy.New(false, order, kept, mostPacket)
		g.beside, _ = proxy.New(true, order, kept, mostPacket)
	}
	if kind == rawGuest {
		return g
	}
	g.stub, _ = stub.New(order, client)
	var first []api.Request
	switch kind {
	case managerGuest:
		g.manager, first, _ = manager.New(client, w, h)
	case editorGuest:
		g.editor, first, _ = editor.New(client, editorW, editorH, "")
	case termGuest:
		g.term, first, _ = term.New(client, termColumns, termRows)
	}
	g, _ = g.ask(first...)
	return g
}

// ask asks requests, all at once, and puts the stub's bytes behind those that are to go.
func (g guest) ask(l ...api.Request) (guest, api.Errno) {
	s, e := g.stub.Ask(l...)
	s, b := s.Take()
	g.stub, g.toGo = s, g.toGo+b
	return g, e
}

// come tells what joined, to which bytes came.
func (g guest) come(b string) guest {
	if g.kind == rawGuest {
		g.raw += b
		return g
	}
	s, l, _ := g.stub.Feed(b)
	g.stub = s
	for _, o := range l {
		g = g.hear(o)
	}
	return g
}

// hear tells what joined, to which a message came.
func (g guest) hear(o api.Out) guest {
	var l []api.Request
	switch g.kind {
	case plainGuest:
		g.lines = append(g.lines[:len(g.lines):len(g.lines)], line(o))
		return g
	case managerGuest:
		g.manager, l = g.manager.Step(o)
	case editorGuest:
		g.editor, l = g.editor.Step(o)
	case termGuest:
		g.term, l = g.term.Step(o)
	}
	g, _ = g.ask(l...)
	return g
}

// kindName tells what a message is.
func kindName(kind int) string {
	switch kind {
	case api.Fault:
		return "fault"
	case api.Answer:
		return "answer"
	}
	return "event"
}

func hex(b string) string {
	s := make([]byte, 0, 2*len(b))
	for i := range len(b) {
		s = append(s, digits[b[i]>>4], digits[b[i]&15])
	}
	return string(s)
}

// hexOrNone tells bytes as digits, or that there are none.
func hexOrNone(b string) string {
	if b == "" {
		return noBytes
	}
	return hex(b)
}

// line tells a message's line.
func line(o api.Out) string {
	words := []string{kindName(o.Kind), strconv.Itoa(o.Code), strconv.Itoa(o.Seq)}
	for _, v := range o.N {
		words = append(words, strconv.FormatInt(v, 10))
	}
	if o.B != "" {
		words = append(words, "text", hex(o.B))
	}
	if len(o.L) > 0 {
		words = append(words, "row")
	}
	for _, v := range o.L {
		words = append(words, strconv.FormatInt(v, 10))
	}
	return strings.Join(words, " ")
}

// text tells what an application has, in lines.
func (g guest) text() ([]string, bool) {
	var l []string
	switch g.kind {
	case editorGuest:
		return []string{hexOrNone(g.editor.Text())}, true
	case termGuest:
		c := g.term.Cells()
		for y := range termRows {
			l = append(l, "|"+c.Row(y))
		}
		return l, true
	case managerGuest:
		for _, id := range g.manager.Frames() {
			frame, _ := g.manager.Frame(id)
			l = append(l, strings.Join([]string{strconv.Itoa(int(id)), strconv.Itoa(int(frame)), g.manager.Title(id)}, " "))
		}
		return l, true
	}
	return nil, false
}
