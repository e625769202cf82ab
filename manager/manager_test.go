package manager_test

import (
	"math"
	"slices"
	"strconv"
	"strings"
	"testing"

	"glazier/api"
	"glazier/manager"
	"glazier/pack"
)

func want[T comparable](t *testing.T, what string, got, wanted T) {
	t.Helper()
	if got != wanted {
		t.Errorf("%s: %v, wanted %v", what, got, wanted)
	}
}

const a, b, f = api.ID(2<<20 + 1), api.ID(2<<20 + 2), api.ID(1<<20 + 10)

// asked writes requests as texts, and looks whether they are right.
func asked(t *testing.T, l []api.Request) string {
	t.Helper()
	var out []string
	for _, r := range l {
		want(t, "right", pack.Check(r), api.OK)
		words := []string{strconv.Itoa(r.Code)}
		for _, v := range r.N {
			words = append(words, map[int64]string{int64(a): "a", int64(b): "b", int64(f): "f", int64(f + 1): "g", 1<<20 + 1: "pen"}[v])
			if words[len(words)-1] == "" {
				words[len(words)-1] = strconv.Itoa(int(v))
			}
		}
		if r.B != "" {
			words = append(words, "'"+r.B+"'")
		}
		out = append(out, strings.Join(words, " "))
	}
	return strings.Join(out, "; ")
}

func event(code int, n ...int64) api.Out { return api.Out{Kind: api.Event, Code: code, N: n} }

func size(seq int, w, h int64) api.Out {
	return api.Out{Kind: api.Answer, Code: api.ReqGetGeometry, Seq: seq, N: []int64{1, 0, 0, w, h, 0, 0}}
}

func title(seq int, s string) api.Out {
	o := api.Out{Kind: api.Answer, Code: api.ReqGetProperty, Seq: seq, N: []int64{4, 8, 0}}
	for i := range len(s) {
		o.L = append(o.L, int64(s[i]))
	}
	return o
}

func mapRequest(id api.ID) api.Out { return event(api.EvMapRequest, 1, int64(id)) }

// steps takes messages, and tells what the last one asked.
func steps(t *testing.T, m manager.Manager, l ...api.Out) (manager.Manager, string) {
	t.Helper()
	last := ""
	for _, o := range l {
		u, asks := m.Step(o)
		again, twice := m.Step(o)
		want(t, "the same", slices.EqualFunc(asks, twice, pack.Same) && slices.Equal(u.Frames(), again.Frames()), true)
		m, last = u, asked(t, asks)
	}
	return m, last
}

func started(t *testing.T) manager.Manager {
	t.Helper()
	m, l, e := manager.New(1, 60, 40)
	want(t, "New", e, api.OK)
	want(t, "requests", asked(t, l), "7 1 32 0 0 0 0 0 3072; 23 1048578 'tiny'; 19 pen; 20 pen 28 0 0 1 200 1048578")
	return m
}

// with is a manager that has framed a, of 20 by 10.
func with(t *testing.T) manager.Manager {
	t.Helper()
	m, _ := steps(t, started(t), mapRequest(a), size(5, 20, 10), title(6, "a"))
	return m
}

// P58.1
func TestNewAndSpot(t *testing.T) {
	for _, x := range []struct {
		client, w, h int
		e            api.Errno
	}{{0, 0, 0, api.ErrRange}, {9, 5, 5, api.ErrRange}, {1, 0, 5, api.ErrSize}, {1, 5, 129, api.ErrSize}, {8, 128, 128, api.OK}, {1, 1, 1, api.OK}, {1, 5, 0, api.ErrSize}, {1, 129, 5, api.ErrSize}, {1, 5, 129, api.ErrSize}} {
		m, l, e := manager.New(x.client, x.w, x.h)
		want(t, "New", e == x.e && (len(l) == 4) == (e == api.OK) && len(m.Frames()) == 0, true)
	}
	r := api.Rect{X: 5, Y: -3, W: 60, H: 40}
	for _, x := range []struct {
		n, w, h int
		p       api.Point
	}{{0, 22, 20, api.Point{X: 5, Y: -3}}, {1, 22, 20, api.Point{X: 17, Y: 7}}, {5, 22, 20, api.Point{X: 5 + 60%39, Y: -3 + 50%21}}, {5, 60, 40, api.Point{X: 5, Y: -3}}, {5, 99, 99, api.Point{X: 5, Y: -3}}, {1, 59, 39, api.Point{X: 5 + 12%2, Y: -3 + 10%2}}, {-7, 1, 1, api.Point{X: 5, Y: -3}}, {math.MaxInt, 22, 20, api.Point{X: 5 + 12<<20%39, Y: -3 + 10<<20%21}}} {
		want(t, "Spot", manager.Spot(x.n, x.w, x.h, r), x.p)
	}
}

// P58.2, P58.3: the chapter's example.
func TestFraming(t *testing.T) {
	m, l := steps(t, started(t), mapRequest(a))
	want(t, "map-request", l, "9 a; 15 a 8 0 0 64 0")
	_, l = steps(t, m, mapRequest(a))
	want(t, "it waits", l, "")
	m, l = steps(t, m, size(5, 20, 10))
	want(t, "size", l, "")
	_, ok := m.Frame(a)
	want(t, "not yet", ok, false)
	m, l = steps(t, m, title(6, "a"))
	want(t, "framed", l, "1 f 1 0 0 22 20 200 1 1; 7 f 32 0 0 0 0 0 3356; 54 a 1; 6 a f 1 9; 3 a; 3 f; 36 f pen 1 7 1 'a'")
	id, ok := m.Frame(a)
	want(t, "Frame", id == f && ok && slices.Equal(m.Frames(), []api.ID{a}) && m.Title(a) == "a" && m.Title(b) == "", true)
	id, ok = m.Frame(b)
	want(t, "Frame", id == 0 && !ok, true)
	_, l = steps(t, m, mapRequest(a))
	want(t, "framed already", l, "3 a; 3 f")
	// The next one, with a long title of all kinds: its requests have the numbers 14 and 15.
	u, l := steps(t, m, mapRequest(b), size(14, 126, 118), title(15, strings.Repeat("x", 30)+"\x1f\x7fmore"))
	want(t, "the next one", l, "1 g 1 0 0 128 128 200 1 1; 7 g 32 0 0 0 0 0 3356; 54 b 1; 6 b g 1 9; 3 b; 3 g; 36 g pen 1 7 1 '"+strings.Repeat("x", 30)+"??'")
	want(t, "Frames", slices.Equal(u.Frames(), []api.ID{a, b}), true)
	_, l = steps(t, m, mapRequest(b), size(14, 4, 4), title(15, ""))
	want(t, "its spot", strings.HasPrefix(l, "1 g 1 12 10 6 14 200 1 1;"), true)
	_, l = steps(t, m, mapRequest(b), size(14, 47, 29), title(15, ""))
	want(t, "hardly room", strings.HasPrefix(l, "1 g 1 0 0 49 39 200 1 1;"), true)
	for _, x := range [][2]int64{{127, 5}, {5, 119}} {
		v, l := steps(t, m, mapRequest(b), size(14, x[0], x[1]), title(15, "t"))
		_, ok := v.Frame(b)
		want(t, "too great", l == "3 b" && !ok, true)
	}
	odd := api.Out{Kind: api.Answer, Code: api.ReqGetProperty, Seq: 14, N: []int64{0, 0, 0, 5, 5, 0, 0}}
	few := api.Out{Kind: api.Answer, Code: api.ReqGetGeometry, Seq: 14, N: []int64{1, 2, 3}}
	_, l = steps(t, m, mapRequest(b), few, odd, title(15, "t"))
	want(t, "not a geometry", l, "")
	_, l = steps(t, m, mapRequest(b), size(14, 5, 5), title(15, " ~"))
	want(t, "all letters", strings.HasSuffix(l, "1 7 1 ' ~'"), true)
	_, l = steps(t, m, mapRequest(b), title(15, "t"))
	want(t, "no size", l, "")
	_, l = steps(t, m, mapRequest(b), size(14, 0, 5), title(15, "t"))
	want(t, "no width", l, "")
	v, _ := steps(t, m, mapRequest(b), title(15, "t"))
	v, l = steps(t, v, mapRequest(b))
	want(t, "asked anew", l, "9 b; 15 b 8 0 0 64 0")
	_, l = steps(t, v, size(16, 4, 4), title(17, "t"))
	want(t, "by its numbers", strings.HasPrefix(l, "1 g"), true)
}

// P58.2: faults, and what is ignored.
func TestFaults(t *testing.T) {
	for _, seq := range []int{5, 6} {
		m, l := steps(t, started(t), mapRequest(a), api.Out{Kind: api.Fault, Code: 3, Seq: seq})
		want(t, "fault", l, "")
		_, l = steps(t, m, size(5, 9, 9), title(6, "t"))
		want(t, "ignored", l, "")
		m, l = steps(t, m, mapRequest(a))
		want(t, "anew", l, "9 a; 15 a 8 0 0 64 0")
		_, l = steps(t, m, size(5, 9, 9), title(6, "t"))
		want(t, "the elder ones", l, "")
		_, l = steps(t, m, size(7, 9, 9), title(8, "t"))
		want(t, "framed", strings.HasPrefix(l, "1 f"), true)
	}
	m := with(t)
	for _, o := range []api.Out{event(api.EvMapRequest, 1), {Kind: api.Answer, Code: 9, Seq: 5, N: []int64{1}}, event(api.EvKeyPress, 1, 2, 3, 4, 5, 6, 7, 8, 9), event(99, 1, 2), {Kind: 7, Code: 17, N: []int64{1, int64(b)}}, {Kind: api.Fault, Code: 3, Seq: 99}, title(5, "x"), size(6, 4, 4), event(api.EvMotion, 1, 0, 0, 0, 0, 0, 7, 7, 0)} {
		u, l := m.Step(o)
		want(t, "ignored", len(l) == 0 && slices.Equal(u.Frames(), m.Frames()), true)
	}
	z, l := manager.Manager{}.Step(mapRequest(a))
	want(t, "zero", len(l) == 0 && len(z.Frames()) == 0, true)
}

// P58.2: configure-requests.
func TestConfigure(t *testing.T) {
	m := with(t)
	ask := func(id api.ID, mask, x, y, w, h, sibling, mode int64) api.Out {
		return event(api.EvConfigureRequest, 1, int64(id), mask, x, y, w, h, sibling, mode)
	}
	for _, x := range []struct {
		o api.Out
		l string
	}{
		{ask(b, 31, -5, 6, 7, 8, int64(a), 2), "5 b 31 -5 6 7 8 a 2"}, {ask(a, 4, 9, 9, 30, 99, 0, 3), "5 a 12 0 0 30 10 0 0; 5 f 12 0 0 32 20 0 0"}, {ask(a, 8, 9, 9, 30, 118, 0, 3), "5 a 12 0 0 20 118 0 0; 5 f 12 0 0 22 128 0 0"}, {ask(a, 8, 0, 0, 0, 119, 0, 0), ""}, {ask(a, 4, 0, 0, 127, 5, 0, 0), ""}, {ask(a, 12, 0, 0, 0, 5, 0, 0), ""}, {ask(a, 12, 0, 0, 1, 1, 0, 0), "5 a 12 0 0 1 1 0 0; 5 f 12 0 0 3 11 0 0"}, {ask(a, 8, 0, 0, 0, 0, 0, 0), ""},
		{ask(a, 1, 7, 8, 9, 9, 0, 3), "5 f 1 7 8 0 0 0 0"}, {ask(a, 2, 7, -8, 9, 9, 0, 3), "5 f 2 7 -8 0 0 0 0"}, {ask(a, 16, 7, 8, 9, 9, int64(b), 3), "5 f 16 0 0 0 0 0 3"}, {ask(a, 0, 7, 8, 9, 9, 0, 3), ""}, {ask(a, 31, 7, 8, 9, 9, 0, 1), "5 a 12 0 0 9 9 0 0; 5 f 12 0 0 11 19 0 0; 5 f 3 7 8 0 0 0 0; 5 f 16 0 0 0 0 0 1"},
	} {
		_, l := steps(t, m, x.o)
		want(t, "configure-request", l, x.l)
	}
	_, l := steps(t, m, ask(a, 4, 0, 0, 30, 0, 0, 0), ask(a, 8, 0, 0, 0, 40, 0, 0))
	want(t, "the size that is known", l, "5 a 12 0 0 30 40 0 0; 5 f 12 0 0 32 50 0 0")
}

// P58.2, P58.4: windows that go, and frames that are dragged.
func TestEvents(t *testing.T) {
	m := with(t)
	A, F := int64(a), int64(f)
	press := event(api.EvButtonPress, F, 0, 1, 0, 3, 4, 9, 9, 0)
	move := func(x, y int64) api.Out { return event(api.EvMotion, 1, 0, 0, 256, 0, 0, x, y, 0) }
	for _, x := range []struct {
		l []api.Out
		s string
	}{
		{[]api.Out{event(api.EvUnmap, F, A)}, "4 f"}, {[]api.Out{event(api.EvUnmap, A, A)}, ""}, {[]api.Out{event(api.EvUnmap, 1, int64(b))}, ""}, {[]api.Out{event(api.EvDestroy, F, A)}, "2 f"}, {[]api.Out{event(api.EvDestroy, 1, A)}, ""}, {[]api.Out{event(api.EvReparent, F, A, 1, 0, 0, 0)}, "2 f"}, {[]api.Out{event(api.EvReparent, F, A, F, 1, 9, 0)}, ""}, {[]api.Out{event(api.EvReparent, 1, A, 1, 0, 0, 0)}, ""},
		{[]api.Out{event(api.EvExpose, F, 0, 0, 1, 1, 0)}, "36 f pen 1 7 1 'a'"}, {[]api.Out{event(api.EvExpose, F, 0, 0, 1, 1, 1)}, ""}, {[]api.Out{event(api.EvExpose, A, 0, 0, 1, 1, 0)}, ""},
		{[]api.Out{press}, "5 f 16 0 0 0 0 0 0"}, {[]api.Out{event(api.EvButtonPress, A, 0, 1, 0, 3, 4, 9, 9, 0)}, ""}, {[]api.Out{press, move(20, 30)}, "5 f 3 17 26 0 0 0 0"}, {[]api.Out{press, move(-32768, 1<<31-1)}, "5 f 3 -32768 32767 0 0 0 0"}, {[]api.Out{press, event(api.EvButtonRelease, F, 0, 1, 256, 0, 0, 0, 0, 0), move(20, 30)}, ""}, {[]api.Out{press, event(api.EvDestroy, F, A), move(20, 30)}, ""},
	} {
		_, l := steps(t, m, x.l...)
		want(t, "event", l, x.s)
	}
	u, _ := steps(t, m, event(api.EvDestroy, F, A))
	_, ok := u.Frame(a)
	_, still := m.Frame(a)
	want(t, "not framed any more", ok || !still || u.Title(a) != "", false)
	_, l := steps(t, u, mapRequest(a), size(15, 5, 5), title(16, ""))
	want(t, "no id twice", strings.HasPrefix(l, "1 g 1 12 10 7 15"), true)
}
