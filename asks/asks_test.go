package asks_test

import (
	"slices"
	"testing"

	"glazier/api"
	"glazier/asks"
	"glazier/world"
)

func TestLooks(t *testing.T) {
	w, _ := world.New(4, 4, 1)
	w.Clients[1] = true
	a := asks.Ask{w, 1, api.Request{Code: api.ReqMapWindow, N: []int64{1, 7, 0, 200}}}
	for i, x := range []struct {
		looks []asks.Look
		bad   int
		value int64
	}{
		{[]asks.Look{a.Window(0)}, 0, 0}, {[]asks.Look{a.Window(0), a.Window(1), a.NotRoot(0)}, api.BadWindow, 7}, {[]asks.Look{a.NotRoot(0)}, api.BadMatch, 1}, {[]asks.Look{a.Granted(0)}, api.BadAccess, 1}, {[]asks.Look{a.GrantedAs(0, api.ReqCreateWindow)}, 0, 0}, {[]asks.Look{a.YesNo(2), a.YesNo(1)}, api.BadValue, 7}, {[]asks.Look{a.Side(2)}, api.BadValue, 0}, {[]asks.Look{a.Side(3)}, api.BadValue, 200}, {[]asks.Look{a.From(1, 7, 7), asks.If(false, a.Side(3))}, 0, 0}, {[]asks.Look{asks.If(true, a.Side(3))}, api.BadValue, 200}, {nil, 0, 0},
	} {
		said, bad := a.First(x.looks...)
		if bad != (x.bad != 0) || bad && !(said[0].Out.Code == x.bad && slices.Equal(said[0].Out.N, []int64{x.value, api.ReqMapWindow})) {
			t.Error(i, said, bad)
		}
	}
	if a.ID(1) != 7 || a.Atom(1) != 7 || a.N(3) != 200 || !a.Is(0) || a.Is(1) || !a.Has(1, 4) || a.Has(1, 8) {
		t.Error("numbers")
	}
	b := asks.Ask{World: w, Client: 1, Request: api.Request{Code: 3, N: []int64{1, 2, 128, 129}}}
	if _, bad := b.First(b.YesNo(0), b.Side(0), b.Side(2)); bad {
		t.Error("edges")
	}
	if _, bad := b.First(b.YesNo(1)); !bad {
		t.Error("YesNo")
	}
	if _, bad := b.First(b.Side(3)); !bad {
		t.Error("Side")
	}
	if len(asks.Rects(make([]int64, 8))) != 2 || len(asks.Rects(make([]int64, 3))) != 0 {
		t.Error("Rects")
	}
	if l := asks.Rects([]int64{1, 2, 3, 4, 5, 6, 7}); len(l) != 1 || l[0] != (api.Rect{X: 1, Y: 2, W: 3, H: 4}) {
		t.Error("Rects", l)
	}
}

func TestDo(t *testing.T) {
	w, _ := world.New(4, 4, 1)
	deeds := map[int]asks.Deed{58: func(a asks.Ask) (world.World, []api.Send) {
		a.World.Over[1] = true
		return a.World, nil
	}, 2: nil}
	u, said, ok := asks.Do(deeds, w, 1, api.Request{Code: 58})
	if !ok || len(said) != 0 || !u.Over[1] || w.Over[1] {
		t.Error("Do")
	}
	u, said, ok = asks.Do(deeds, w, 1, api.Request{Code: 58, B: "a"})
	if !ok || len(said) != 1 || said[0].Out.Code != api.BadLength || u.Over[1] {
		t.Error("BadLength")
	}
	_, said, ok = asks.Do(deeds, world.World{}, 1, api.Request{Code: 9})
	if ok || len(said) != 0 || !slices.Equal(asks.Codes(deeds), []int{2, 58}) {
		t.Error("other code")
	}
}
