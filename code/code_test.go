package code_test

import (
	"regexp"
	"slices"
	"strconv"
	"strings"
	"testing"

	"glazier/api"
	"glazier/code"
	"glazier/format"
)

func same(a, b format.Form) bool {
	return slices.Equal(a.Fixed, b.Fixed) && a.Bytes == b.Bytes && a.List == b.List
}

// P3.1
func TestForms(t *testing.T) {
	for _, x := range []struct {
		f    func(int) (format.Form, bool)
		code int
		form format.Form
		ok   bool
	}{
		{code.Request, 1, format.Form{Fixed: []int{4, 4, -2, -2, 2, 2, 1, 1, 1}}, true},
		{code.Request, 9, format.Form{Fixed: []int{4}}, true},
		{code.Request, 11, format.Form{Fixed: []int{1}, Bytes: true}, true},
		{code.Request, 21, format.Form{Fixed: []int{4, -2, -2, 1}, List: -2}, true},
		{code.Request, 56, format.Form{}, true}, {code.Request, 0, format.Form{}, false}, {code.Request, 59, format.Form{}, false}, {code.Request, -1, format.Form{}, false},
		{code.Reply, 9, format.Form{Fixed: []int{4, -2, -2, 2, 2, 1, 1}}, true}, {code.Reply, 12, format.Form{Bytes: true}, true}, {code.Reply, 25, format.Form{Fixed: []int{1, 1}, List: 1}, true},
		{code.Reply, 1, format.Form{}, false}, {code.Reply, 58, format.Form{}, false}, {code.Reply, 99, format.Form{}, false}, {code.Reply, 48, format.Form{Fixed: []int{4, -2, -2, -2, -2, 2}}, true},
		{code.Event, 25, format.Form{Fixed: []int{4, 4}, List: 4}, true}, {code.Event, 5, format.Form{Fixed: []int{4, 4, 1, 2, -2, -2, -2, -2, 4}}, true},
		{code.Event, 0, format.Form{}, false}, {code.Event, 26, format.Form{}, false},
	} {
		f, ok := x.f(x.code)
		if !same(f, x.form) || ok != x.ok {
			t.Error(x.code, f, ok)
		}
	}
	replies := 0
	for c := range 100 {
		if _, ok := code.Reply(c); ok {
			replies++
		}
	}
	if replies != 13 {
		t.Error("replies:", replies)
	}
}

// fields reads a line's fields: their form, and the names of the fixed ones.
func fields(text string) (format.Form, []string) {
	var f format.Form
	var names []string
	for _, word := range strings.Fields(text) {
		m := regexp.MustCompile(`^([a-zA-Z]+?)(-?[124])?$`).FindStringSubmatch(word)
		size, _ := strconv.Atoi(m[2])
		switch m[1] {
		case "none":
		case "B":
			f.Bytes = true
		case "L":
			f.List = size
		default:
			f.Fixed, names = append(f.Fixed, size), append(names, m[1])
		}
	}
	return f, names
}

// P3.1, P3.2: line by line of the chapter's tables.
func TestTables(t *testing.T) {
	for i, line := range strings.Split(requestTable, "\n") {
		cells := strings.Split(line, " | ")
		f, names := fields(cells[2])
		got, ok := code.Request(i + 1)
		if !same(got, f) || !ok || cells[0] != strconv.Itoa(i+1) || code.Name(i+1) != cells[1] || !slices.Equal(code.Fields(i+1), names) {
			t.Error(line)
		}
		r, _ := fields(strings.Trim(cells[3], "-"))
		got, ok = code.Reply(i + 1)
		if ok != (cells[3] != "-") || !same(got, r) && ok {
			t.Error(line)
		}
	}
	for i, line := range strings.Split(eventTable, "\n") {
		cells := strings.Split(line, " | ")
		f, _ := fields(cells[2])
		got, ok := code.Event(i + 1)
		if !same(got, f) || !ok || cells[0] != strconv.Itoa(i+1) || code.EventName(i+1) != cells[1] {
			t.Error(line)
		}
	}
}

// P3.2
func TestNames(t *testing.T) {
	if code.Name(58) != "no-op" || code.Name(1) != "create-window" || code.Name(37) != "set-focus" || code.Name(0) != "" || code.Name(59) != "" {
		t.Error("Name")
	}
	if code.EventName(25) != "message" || code.EventName(1) != "key-press" || code.EventName(0) != "" || code.EventName(26) != "" {
		t.Error("EventName")
	}
	if c, ok := code.Of("no-op"); c != 58 || !ok {
		t.Error("Of", c, ok)
	}
	for _, name := range []string{"", "message", "No-op", "no-op "} {
		if c, ok := code.Of(name); c != 0 || ok {
			t.Error("Of", name, c, ok)
		}
	}
	if !slices.Equal(code.Fields(11), []string{"only"}) || !slices.Equal(code.Fields(6), []string{"id", "parent", "x", "y"}) || len(code.Fields(58)) != 0 || len(code.Fields(99)) != 0 {
		t.Error("Fields")
	}
}

// P3.3
func TestOneName(t *testing.T) {
	seen := map[string]bool{}
	for c := 1; c <= 58; c++ {
		f, _ := code.Request(c)
		back, ok := code.Of(code.Name(c))
		if seen[code.Name(c)] || back != c || !ok || len(code.Fields(c)) != len(f.Fixed) || f.Check() != api.OK {
			t.Error(c, code.Name(c))
		}
		seen[code.Name(c)] = true
	}
	seen = map[string]bool{}
	for c := 1; c <= 25; c++ {
		if seen[code.EventName(c)] || code.EventName(c) == "" {
			t.Error(c)
		}
		seen[code.EventName(c)] = true
	}
}

// An answer shares nothing with another one.
func TestNewMemory(t *testing.T) {
	f, _ := code.Request(1)
	f.Fixed[0] = 99
	code.Fields(1)[0] = "x"
	if g, _ := code.Request(1); g.Fixed[0] != 4 || code.Fields(1)[0] != "id" {
		t.Error("shared")
	}
}
