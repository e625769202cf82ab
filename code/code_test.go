package code

import (
	"os"
	"regexp"
	"slices"
	"strconv"
	"strings"
	"testing"

	"glazier/api"
	"glazier/format"
)

func same(a, b format.Form) bool {
	return slices.Equal(a.Fixed, b.Fixed) && a.Bytes == b.Bytes && a.List == b.List
}

// P3.1
func TestForms(t *testing.T) {
	for _, x := range []struct {
		f    func(int) (format.Form, bool)
		code int
		form format.Form
		ok   bool
	}{
		{Request, 1, format.Form{Fixed: []int{4, 4, -2, -2, 2, 2, 1, 1, 1}}, true},
		{Request, 9, format.Form{Fixed: []int{4}}, true},
		{Request, 11, format.Form{Fixed: []int{1}, Bytes: true}, true},
		{Request, 21, format.Form{Fixed: []int{4, -2, -2, 1}, List: -2}, true},
		{Request, 56, format.Form{}, true}, {Request, 0, format.Form{}, false}, {Request, 59, format.Form{}, false}, {Request, -1, format.Form{}, false},
		{Reply, 9, format.Form{Fixed: []int{4, -2, -2, 2, 2, 1, 1}}, true}, {Reply, 12, format.Form{Bytes: true}, true}, {Reply, 25, format.Form{Fixed: []int{1, 1}, List: 1}, true},
		{Reply, 1, format.Form{}, false}, {Reply, 58, format.Form{}, false}, {Reply, 99, format.Form{}, false}, {Reply, 48, format.Form{Fixed: []int{4, -2, -2, -2, -2, 2}}, true},
		{Event, 25, format.Form{Fixed: []int{4, 4}, List: 4}, true}, {Event, 5, format.Form{Fixed: []int{4, 4, 1, 2, -2, -2, -2, -2, 4}}, true},
		{Event, 0, format.Form{}, false}, {Event, 26, format.Form{}, false},
	} {
		f, ok := x.f(x.code)
		if !same(f, x.form) || ok != x.ok {
			t.Error(x.code, f, ok)
		}
	}
	replies := 0
	for c := range 100 {
		if _, ok := Reply(c); ok {
			replies++
		}
	}
	if replies != 13 {
		t.Error("replies:", replies)
	}
}

// P3.1, P3.2: the chapter's own tables, if they lie beside the project.
func TestChapter(t *testing.T) {
	text, err := os.ReadFile("../../shared/doc/03-code.md")
	if err != nil {
		t.Skip("no chapter here")
	}
	table := 0
	for _, line := range strings.Split(string(text), "\n") {
		if strings.HasPrefix(line, "| code") {
			table++
		}
		m := regexp.MustCompile(`^\| (\d+) \| ([a-z-]+) \| ([^|]*?) (?:\| ([^|]*?) )?\|$`).FindStringSubmatch(line)
		if m == nil {
			continue
		}
		c, _ := strconv.Atoi(m[1])
		e := request(c)
		if table == 2 {
			e = event(c)
		}
		if e.name != m[2] || e.fields != strings.TrimPrefix(m[3], "none") || table == 1 && e.reply != m[4] {
			t.Error(line, e)
		}
	}
}

// P3.2
func TestNames(t *testing.T) {
	if Name(58) != "no-op" || Name(1) != "create-window" || Name(37) != "set-focus" || Name(0) != "" || Name(59) != "" {
		t.Error("Name")
	}
	if EventName(25) != "message" || EventName(1) != "key-press" || EventName(0) != "" || EventName(26) != "" {
		t.Error("EventName")
	}
	if c, ok := Of("no-op"); c != 58 || !ok {
		t.Error("Of", c, ok)
	}
	for _, name := range []string{"", "message", "No-op", "no-op "} {
		if c, ok := Of(name); c != 0 || ok {
			t.Error("Of", name, c, ok)
		}
	}
	if !slices.Equal(Fields(11), []string{"only"}) || !slices.Equal(Fields(6), []string{"id", "parent", "x", "y"}) || len(Fields(58)) != 0 || len(Fields(99)) != 0 {
		t.Error("Fields")
	}
}

// P3.3
func TestOneName(t *testing.T) {
	seen := map[string]bool{}
	for c := 1; c <= 58; c++ {
		f, _ := Request(c)
		back, ok := Of(Name(c))
		if seen[Name(c)] || back != c || !ok || len(Fields(c)) != len(f.Fixed) || f.Check() != api.OK {
			t.Error(c, Name(c))
		}
		seen[Name(c)] = true
	}
	seen = map[string]bool{}
	for c := 1; c <= 25; c++ {
		if seen[EventName(c)] || EventName(c) == "" {
			t.Error(c)
		}
		seen[EventName(c)] = true
	}
}

// An answer shares nothing with another one.
func TestNewMemory(t *testing.T) {
	f, _ := Request(1)
	f.Fixed[0] = 99
	Fields(1)[0] = "x"
	if g, _ := Request(1); g.Fixed[0] != 4 || Fields(1)[0] != "id" {
		t.Error("shared")
	}
}
