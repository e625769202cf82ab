package freeze_test

import (
	"slices"
	"testing"

	"glazier/api"
	"glazier/freeze"
)

func want[T comparable](t *testing.T, what string, got, wanted T) {
	t.Helper()
	if got != wanted {
		t.Errorf("%s: %v, wanted %v", what, got, wanted)
	}
}

var grab = freeze.Active{Client: 1, Window: 7, Mask: 5, Time: 9}

func press(n int) api.Input  { return api.Input{Kind: api.EvButtonPress, Code: 1, Count: n} }
func motion(n int) api.Input { return api.Input{Kind: api.EvMotion, Count: n} }

func feed(t *testing.T, d freeze.Device, l ...api.Input) freeze.Device {
	t.Helper()
	for _, i := range l {
		var e api.Errno
		d, e = d.Feed(i)
		want(t, "Feed", e, api.OK)
	}
	return d
}

// drain tells the counts of all that comes.
func drain(d freeze.Device) (freeze.Device, []int) {
	var l []int
	for {
		u, i, ok := d.Next()
		if !ok {
			return u, l
		}
		d, l = u, append(l, i.Count)
	}
}

// P39.1
func TestStates(t *testing.T) {
	var z freeze.Device
	a, ok := z.Active()
	want(t, "zero", !ok && a == freeze.Active{} && !z.Frozen() && !z.Stepping() && len(z.Waiting()) == 0, true)
	d := feed(t, z, motion(1)).Begin(grab, true)
	a, ok = d.Active()
	want(t, "Begin", ok && a == grab && d.Frozen() && !d.Stepping() && len(d.Waiting()) == 1, true)
	d, _, _ = d.Allow(freeze.Sync)
	want(t, "steps", d.Stepping() && !d.Frozen(), true)
	want(t, "Begin", d.Begin(grab, false).Stepping() || d.Begin(grab, false).Frozen(), false)
	f := d.Freeze()
	want(t, "Freeze", f.Frozen() && !f.Stepping() && len(f.Waiting()) == 1, true)
	e := f.Hold(press(3)).End()
	_, ok = e.Active()
	want(t, "End", ok || e.Frozen() || e.Stepping(), false)
	_, _, ok = e.Begin(grab, true).Allow(freeze.Replay)
	want(t, "holds nothing", ok, false)
	_, _, ok = f.Hold(press(3)).Begin(grab, true).Allow(freeze.Replay)
	want(t, "Begin holds nothing", ok, false)
	d.Waiting()[0].Count = 99
	want(t, "new memory", d.Waiting()[0].Count, 1)
}

// P39.2
func TestFeedAndNext(t *testing.T) {
	d := freeze.Device{}
	for n := range 256 {
		d = feed(t, d, motion(n))
	}
	e, err := d.Feed(motion(256))
	want(t, "full", err == api.ErrFull && len(e.Waiting()) == 256, true)
	_, _, ok := d.Freeze().Next()
	want(t, "frozen", ok, false)
	_, l := drain(d)
	want(t, "in order", len(l) == 256 && slices.IsSorted(l), true)
	u, i, ok := freeze.Device{}.Next()
	want(t, "none", !ok && i == api.Input{} && len(u.Waiting()) == 0, true)
	// Two values made of one have what each was fed.
	one, two := feed(t, d.Begin(grab, false).End(), nil...), freeze.Device{}
	one, _, _ = one.Next()
	a, b := feed(t, one, press(1000)), feed(t, one, press(2000))
	want(t, "values", a.Waiting()[255].Count*10+b.Waiting()[255].Count+len(two.Waiting()), 12000)
}

// P39.3, P39.4
func TestAllow(t *testing.T) {
	for kind := api.EvKeyPress; kind <= api.EvButtonRelease; kind++ {
		p := api.Input{Kind: kind, Count: 2}
		d := feed(t, freeze.Device{}.Begin(grab, true), motion(1), p, motion(3), press(4))
		d, i, ok := d.Allow(freeze.Sync)
		want(t, "Sync", !ok && i == api.Input{}, true)
		d, l := drain(d)
		want(t, "one step", slices.Equal(l, []int{1, 2}) && d.Frozen() && !d.Stepping(), true)
		h := d.Hold(p)
		r, i, ok := h.Allow(freeze.Replay)
		_, active := r.Active()
		want(t, "Replay", ok && i == p && !active && !r.Frozen() && len(r.Waiting()) == 2, true)
		h, _, ok = h.Allow(freeze.Async)
		_, active = h.Active()
		want(t, "Async", !ok && active && !h.Frozen() && !h.Stepping(), true)
		_, _, ok = h.Freeze().Allow(freeze.Replay)
		want(t, "holds nothing more", ok, false)
		_, l = drain(h)
		want(t, "all", slices.Equal(l, []int{3, 4}), true)
	}
	d := freeze.Device{}.Begin(grab, true).Hold(press(1))
	for _, mode := range []int{3, -1} {
		e, _, ok := d.Allow(mode)
		want(t, "mode", !ok && e.Frozen(), true)
	}
	e, _, ok := freeze.Device{}.Freeze().Hold(press(1)).Allow(freeze.Replay)
	want(t, "no grab", !ok && e.Frozen(), true)
	e, _, ok = freeze.Device{}.Begin(grab, false).Hold(press(1)).Allow(freeze.Replay)
	_, active := e.Active()
	want(t, "not frozen", !ok && active, true)
}
