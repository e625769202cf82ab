package names_test

import (
	"slices"
	"strconv"
	"strings"
	"testing"

	"glazier/api"
	"glazier/names"
	"glazier/prop"
	"glazier/tell"
	"glazier/world"
)

func want[T comparable](t *testing.T, what string, got, wanted T) {
	t.Helper()
	if got != wanted {
		t.Errorf("%s: %v, wanted %v", what, got, wanted)
	}
}

const a, b, c = api.ID(1<<20 + 1), api.ID(2<<20 + 1), api.ID(1<<20 + 2)

// example: clients 1, 2 and 3; a of 1 on the root, with c of 1 in it; b of 2 on the root.
func example(t *testing.T) world.World {
	t.Helper()
	w, _ := world.New(8, 8, 1)
	for _, x := range [][2]api.ID{{a, 1}, {b, 1}, {c, a}} {
		w.In.Tree, _ = w.In.Tree.Add(x[0], x[1])
	}
	for n := 1; n <= 3; n++ {
		w.Clients[n] = true
	}
	w.In.Now = 50
	return w
}

// do asks a request, and tells what was said as texts: client, kind, code, numbers, text, row.
func do(t *testing.T, w world.World, client, code int, n []int64, text string, l ...int64) (world.World, string) {
	t.Helper()
	was := w.Text()
	u, said, ok := names.Do(w, client, api.Request{Code: code, N: n, B: text, L: l})
	want(t, "one of its requests", ok, true)
	want(t, "as it was", w.Text(), was)
	var lines []string
	for _, s := range said {
		want(t, "right", tell.Check(s.Out), api.OK)
		words := []string{strconv.Itoa(s.Client), []string{"fault", "answer", "event"}[s.Out.Kind], strconv.Itoa(s.Out.Code)}
		for _, v := range s.Out.N {
			words = append(words, strconv.Itoa(int(v)))
		}
		if s.Out.B != "" {
			words = append(words, s.Out.B)
		}
		if len(s.Out.L) > 0 {
			words = append(words, "row")
			for _, v := range s.Out.L {
				words = append(words, strconv.Itoa(int(v)))
			}
		}
		lines = append(lines, strings.Join(words, " "))
		if s.Out.Kind == api.Fault {
			want(t, "a fault changes nothing", u.Text(), was)
		}
	}
	return u, strings.NewReplacer("1048577", "A", "1048578", "C", "2097153", "B").Replace(strings.Join(lines, "; "))
}

func ids(l ...any) []int64 {
	var n []int64
	for _, x := range l {
		switch v := x.(type) {
		case int:
			n = append(n, int64(v))
		case api.ID:
			n = append(n, int64(v))
		}
	}
	return n
}

// P46.1: each request's answer, or fault, by a table.
func TestRequests(t *testing.T) {
	w := example(t)
	l, _ := w.Props[a].Change(prop.Replace, prop.Prop{Name: 8, Type: 4, Format: 8, Data: []int64{1, 2, 3}})
	w.Props[a] = l
	w.In.Choice, _ = w.In.Choice.Set(3, a, api.MaskProperty)
	w.In.Choice, _ = w.In.Choice.Set(3, 1, api.MaskProperty|api.MaskMotion)
	big := make([]int64, 16385)
	for i, x := range []struct {
		client, code int
		n            []int64
		text         string
		l            []int64
		said         string
	}{
		{1, 11, ids(0), "title", nil, "1 answer 11 8"}, {1, 11, ids(1), "new", nil, "1 answer 11 0"}, {1, 11, ids(0), "new", nil, "1 answer 11 11"}, {1, 11, ids(2), "", nil, "1 fault 2 2 11"}, {1, 11, ids(0), "", nil, "1 fault 2 0 11"}, {1, 11, ids(0), "a\nb", nil, "1 fault 2 3 11"},
		{1, 11, nil, "title", nil, "1 fault 16 0 11"}, {1, 12, ids(8), "", nil, "1 answer 12 title"}, {1, 12, ids(11), "", nil, "1 fault 5 11 12"}, {1, 12, ids(0), "", nil, "1 fault 5 0 12"}, {1, 12, ids(1<<32 - 1), "", nil, "1 fault 5 -1 12"},
		{1, 13, ids(a, 9, 4, 8, 0), "", []int64{255}, "3 event 21 A 9 0 50"}, {1, 13, ids(99, 99, 99, 9, 9), "", nil, "1 fault 3 99 13"}, {2, 13, ids(a, 99, 99, 9, 9), "", nil, "2 fault 10 A 13"}, {1, 13, ids(a, 99, 98, 9, 9), "", nil, "1 fault 5 99 13"}, {1, 13, ids(a, 8, 98, 9, 9), "", nil, "1 fault 5 98 13"}, {1, 13, ids(a, 8, 0, 9, 9), "", nil, "1 fault 5 0 13"},
		{1, 13, ids(a, 8, 4, 9, 9), "", nil, "1 fault 2 9 13"}, {1, 13, ids(a, 8, 4, 8, 3), "", nil, "1 fault 2 3 13"}, {1, 13, ids(a, 8, 4, 8, 0), "", []int64{256}, "1 fault 2 0 13"}, {1, 13, ids(a, 8, 5, 8, 1), "", nil, "1 fault 8 A 13"}, {1, 13, ids(a, 8, 4, 8, 0), "", big[:16384], "1 fault 16 0 13"}, {1, 13, ids(a, 8, 4, 8, 1), "", big[:16370], "3 event 21 A 8 0 50"},
		{1, 13, ids(a, 9, 4, 16, 0), "", []int64{65535}, "3 event 21 A 9 0 50"}, {1, 13, ids(a, 9, 4, 32, 0), "", []int64{1<<32 - 1}, "3 event 21 A 9 0 50"}, {1, 13, ids(a, 9, 4, 0, 0), "", nil, "1 fault 2 0 13"}, {1, 13, ids(a, 9, 4, 24, 0), "", nil, "1 fault 2 24 13"}, {1, 14, ids(a, 8), "", nil, "3 event 21 A 8 1 50"}, {1, 14, ids(a, 9), "", nil, ""}, {1, 14, ids(99, 0), "", nil, "1 fault 3 99 14"}, {2, 14, ids(a, 0), "", nil, "2 fault 10 A 14"}, {1, 14, ids(a, 0), "", nil, "1 fault 5 0 14"},
		{1, 15, ids(a, 8, 0, 0, 9, 0), "", nil, "1 answer 15 4 8 0 row 1 2 3"}, {1, 15, ids(a, 8, 4, 1, 1, 1), "", nil, "1 answer 15 4 8 1 row 2"}, {1, 15, ids(a, 8, 4, 1, 2, 1), "", nil, "1 answer 15 4 8 0 row 2 3; 3 event 21 A 8 1 50"}, {1, 15, ids(a, 8, 5, 9, 2, 1), "", nil, "1 answer 15 4 8 3"}, {1, 15, ids(a, 9, 0, 0, 9, 1), "", nil, "1 answer 15 0 0 0"},
		{2, 15, ids(a, 0, 0, 0, 0, 9), "", nil, "2 fault 10 A 15"}, {1, 15, ids(7, 0, 0, 0, 0, 9), "", nil, "1 fault 3 7 15"}, {1, 15, ids(a, 0, 99, 0, 0, 9), "", nil, "1 fault 5 0 15"}, {1, 15, ids(a, 8, 99, 0, 0, 9), "", nil, "1 fault 5 99 15"}, {1, 15, ids(a, 8, 0, 4, 0, 9), "", nil, "1 fault 2 9 15"}, {1, 15, ids(a, 8, 0, 4, 0, 0), "", nil, "1 fault 2 4 15"},
		{1, 16, ids(a), "", nil, "1 answer 16 row 8"}, {1, 16, ids(1), "", nil, "1 answer 16"}, {1, 16, ids(99), "", nil, "1 fault 3 99 16"}, {2, 16, ids(a), "", nil, "2 fault 10 A 16"},
		{1, 50, ids(a, 1, 0), "", nil, ""}, {1, 50, ids(99, 0, 0), "", nil, "1 fault 5 0 50"}, {1, 50, ids(99, 1, 0), "", nil, "1 fault 3 99 50"}, {1, 50, ids(b, 1, 0), "", nil, "1 fault 10 B 50"}, {1, 50, ids(0, 1, 0), "", nil, ""},
		{1, 51, ids(1), "", nil, "1 answer 51 0"}, {1, 51, ids(0), "", nil, "1 fault 5 0 51"}, {1, 52, ids(a, 1, 4, 9, 7), "", nil, "1 event 24 A 1 4 0 7"}, {1, 52, ids(a, 1, 4, 9, 0), "", nil, "1 event 24 A 1 4 0 50"},
		{1, 52, ids(99, 0, 0, 0, 0), "", nil, "1 fault 3 99 52"}, {1, 52, ids(b, 0, 0, 0, 0), "", nil, "1 fault 10 B 52"}, {1, 52, ids(a, 0, 99, 99, 0), "", nil, "1 fault 5 0 52"}, {1, 52, ids(a, 1, 99, 98, 0), "", nil, "1 fault 5 99 52"}, {1, 52, ids(a, 1, 4, 0, 0), "", nil, "1 fault 5 0 52"},
		{1, 53, ids(a, 0, 0, 12), "", []int64{5}, "1 event 12 5"}, {2, 53, ids(a, 0, 0, 12), "", []int64{5}, "2 fault 10 A 53"}, {1, 53, ids(99, 9, 9999, 99), "", nil, "1 fault 3 99 53"}, {1, 53, ids(a, 9, 9999, 99), "", nil, "1 fault 2 9 53"}, {1, 53, ids(a, 1, 8192, 99), "", nil, "1 fault 2 8192 53"}, {1, 53, ids(a, 1, 8191, 26), "", nil, "1 fault 2 26 53"}, {1, 53, ids(a, 1, 8191, 0), "", nil, "1 fault 2 0 53"},
		{1, 53, ids(a, 0, 0, 12), "", nil, "1 fault 2 0 53"}, {1, 53, ids(a, 0, 0, 12), "", []int64{5, 6}, "1 fault 2 0 53"}, {1, 53, ids(a, 0, 0, 8), "", []int64{5, 256}, "1 fault 2 0 53"}, {1, 53, ids(a, 0, 0, 25), "", []int64{5, 6, 7, 1<<32 - 1}, "1 event 25 5 6 row 7 4294967295"},
		{1, 53, ids(a, 0, 0, 13), "", []int64{5, 6, 1<<32 - 3, 4, 7, 8, 1}, "1 event 13 5 6 -3 4 7 8 1"}, {1, 53, ids(a, 0, 0, 13), "", []int64{5, 6, 1 << 31, 4, 7, 8, 1}, "1 fault 2 0 53"}, {1, 53, ids(1, 0, 0, 12), "", []int64{5}, ""},
		{1, 53, ids(c, 1, api.MaskProperty, 12), "", []int64{5}, "3 event 12 5"}, {1, 53, ids(c, 0, api.MaskProperty, 12), "", []int64{5}, ""}, {1, 53, ids(c, 1, api.MaskMotion, 12), "", []int64{5}, "3 event 12 5"},
	} {
		if _, said := do(t, w, x.client, x.code, x.n, x.text, x.l...); said != x.said {
			t.Errorf("%d: request %d: %s, wanted %s", i, x.code, said, x.said)
		}
	}
}

// P46.1: other codes, and what Codes and Property tell.
func TestOthers(t *testing.T) {
	w := example(t)
	for _, code := range []int{0, 10, 17, 49, 54, 99} {
		u, said, ok := names.Do(w, 1, api.Request{Code: code})
		want(t, "other code", !ok && len(said) == 0 && u.Text() == w.Text(), true)
	}
	want(t, "Codes", slices.Equal(names.Codes(), []int{11, 12, 13, 14, 15, 16, 50, 51, 52, 53}), true)
	w.In.Choice, _ = w.In.Choice.Set(2, a, api.MaskProperty)
	l := names.Property(w, a, 9, 1)
	want(t, "Property", len(l) == 1 && l[0].Client == 2 && l[0].Out.Code == api.EvProperty && slices.Equal(l[0].Out.N, []int64{int64(a), 9, 1, 50}), true)
}

// P46.1, P46.2: what requests change, and nothing else.
func TestChanges(t *testing.T) {
	w := example(t)
	for i := 0; i < 1014; i++ {
		w, _ = do(t, w, 1, 11, ids(0), "n"+strconv.Itoa(i))
	}
	_, said := do(t, w, 1, 11, ids(0), "more")
	want(t, "full", said, "1 fault 11 0 11")
	w = example(t)
	w, _ = do(t, w, 1, 13, ids(a, 8, 4, 8, 0), "", 1, 2)
	w, _ = do(t, w, 1, 13, ids(a, 8, 4, 8, 1), "", 0)
	w, _ = do(t, w, 1, 13, ids(a, 8, 4, 8, 2), "", 3)
	w, said = do(t, w, 1, 15, ids(a, 8, 0, 0, 9, 1), "")
	want(t, "data", said, "1 answer 15 4 8 0 row 0 1 2 3")
	want(t, "gone", len(w.Props[a].Names()), 0)
	for i := range 64 {
		w.Atoms, _, _ = w.Atoms.Intern("x"+strconv.Itoa(i), false)
		w, _ = do(t, w, 1, 13, ids(a, 1+i, 4, 8, 0), "")
	}
	_, said = do(t, w, 1, 13, ids(a, 65, 4, 8, 0), "")
	want(t, "full", said, "1 fault 11 0 13")
	big := make([]int64, 16370)
	w, _ = do(t, w, 1, 13, ids(a, 1, 4, 8, 0), "", big...)
	_, said = do(t, w, 1, 13, ids(a, 1, 4, 8, 2), "", big...)
	want(t, "too long", said, "1 fault 11 0 13")
	u := example(t)
	u, _ = do(t, u, 1, 50, ids(a, 1, 40), "")
	_, said = do(t, u, 3, 51, ids(1), "")
	want(t, "owner", said, "3 answer 51 A")
	u2, said := do(t, u, 2, 50, ids(b, 1, 39), "")
	want(t, "too old", said+u2.Text(), u.Text())
	u, said = do(t, u, 2, 52, ids(b, 1, 4, 9, 0), "")
	want(t, "asked", said, "1 event 23 A B 1 4 9 50")
	// The owner may write to the requestor, and answer it, once.
	u, said = do(t, u, 1, 13, ids(b, 9, 4, 8, 0), "", 7)
	want(t, "written", said, "")
	_, said = do(t, u, 3, 53, ids(b, 0, 0, 24), "", int64(b), 1, 4, 9, 50)
	want(t, "another one", said, "3 fault 10 B 53")
	other, _ := do(t, u, 1, 53, ids(b, 0, 0, 25), "", int64(b), 1, 4, 9, 50)
	want(t, "another event", len(other.Claims.All()), 1)
	other, _ = do(t, u, 1, 53, ids(b, 0, 0, 24), "", int64(a), 1, 4, 9, 50)
	want(t, "another requestor", len(other.Claims.All()), 1)
	u, said = do(t, u, 1, 53, ids(b, 0, 0, 24), "", int64(b), 1, 4, 9, 50)
	want(t, "answered", said, "2 event 24 B 1 4 9 50")
	want(t, "pending", len(u.Claims.All()), 0)
	_, said = do(t, u, 2, 50, ids(b, 1, 0), "")
	want(t, "clear", said, "1 event 22 A 1 50")
}
