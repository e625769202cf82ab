package claim_test

import (
	"slices"
	"testing"

	"glazier/api"
	"glazier/claim"
)

func want[T comparable](t *testing.T, what string, got, wanted T) {
	t.Helper()
	if got != wanted {
		t.Errorf("%s: %v, wanted %v", what, got, wanted)
	}
}

func told(t *testing.T, got []api.Send, wanted ...[]int64) {
	t.Helper()
	ok := len(got) == len(wanted)
	for i := range got {
		ok = ok && slices.Equal(append([]int64{int64(got[i].Client), int64(got[i].Out.Code)}, got[i].Out.N...), wanted[i]) && got[i].Out.Kind == api.Event && got[i].Out.Seq == 0
	}
	if !ok {
		t.Errorf("told: %v, wanted %v", got, wanted)
	}
}

const a, b, c = api.ID(1<<20 + 1), api.ID(2<<20 + 1), api.ID(2<<20 + 2)

// P41.1, P41.2, P41.5
func TestSet(t *testing.T) {
	u, l, ok := claim.Table{}.Set(1, claim.Claim{1, a, 5}, 9)
	want(t, "Set", ok && len(l) == 0, true)
	for _, x := range []struct {
		a api.Atom
		c claim.Claim
	}{{0, claim.Claim{2, c, 7}}, {1, claim.Claim{2, c, 4}}, {1, claim.Claim{2, c, 10}}} {
		v, l, ok := u.Set(x.a, x.c, 9)
		o, _ := v.Owner(1)
		want(t, "as it was", !ok && len(l) == 0 && o == claim.Claim{1, a, 5}, true)
	}
	v, l, ok := u.Set(1, claim.Claim{2, c, 6}, 9)
	o, had := v.Owner(1)
	want(t, "Set", ok && had && o == claim.Claim{2, c, 6}, true)
	told(t, l, []int64{1, api.EvSelectionClear, int64(a), 1, 6})
	v, _, ok = u.Set(1, claim.Claim{2, c, 5}, 9)
	o, _ = v.Owner(1)
	want(t, "at the same time", ok && o == claim.Claim{2, c, 5}, true)
	v, l, ok = u.Set(1, claim.Claim{1, a, 0}, 9)
	o, _ = v.Owner(1)
	want(t, "the same window", ok && len(l) == 0 && o.Time == 9, true)
	v, l, ok = u.Set(1, claim.Claim{2, 0, 8}, 9)
	o, had = v.Owner(1)
	want(t, "nobody's", ok && !had && o == claim.Claim{}, true)
	told(t, l, []int64{1, api.EvSelectionClear, int64(a), 1, 8})
	_, _, ok = v.Set(1, claim.Claim{2, c, 7}, 9)
	want(t, "time stays", ok, false)
	_, had = u.Owner(2)
	want(t, "other", had, false)
}

// P41.2, P41.3, P41.5
func TestConvert(t *testing.T) {
	q := claim.Asked{2, b, 1, 4, 9, 7}
	_, l := claim.Table{}.Convert(q)
	told(t, l, []int64{2, api.EvSelectionNotify, int64(b), 1, 4, 0, 7})
	u, _, _ := claim.Table{}.Set(1, claim.Claim{1, a, 5}, 9)
	u, l = u.Convert(q)
	told(t, l, []int64{1, api.EvSelectionRequest, int64(a), int64(b), 1, 4, 9, 7})
	q2 := q
	q2.Target = 5
	u, _ = u.Convert(q2)
	want(t, "All", slices.Equal(u.All(), []claim.Asked{q, q2}), true)
	want(t, "May", u.May(1, b) && !u.May(2, b) && !u.May(1, c), true)
	for _, x := range []struct {
		client    int
		requestor api.ID
		selection api.Atom
	}{{2, b, 1}, {1, c, 1}, {1, b, 2}} {
		v, ok := u.Answer(x.client, x.requestor, x.selection)
		want(t, "Answer", !ok && len(v.All()) == 2, true)
	}
	v, ok := u.Answer(1, b, 1)
	want(t, "the first one", ok && slices.Equal(v.All(), []claim.Asked{q2}) && len(u.All()) == 2, true)
	// Whoever has it later, the owner then still answers.
	w, _, _ := u.Set(1, claim.Claim{3, c, 8}, 9)
	want(t, "May", w.May(1, b) && !w.May(3, b), true)
	for len(u.All()) < 256 {
		u, _ = u.Convert(q)
	}
	u, l = u.Convert(q)
	told(t, l, []int64{2, api.EvSelectionNotify, int64(b), 1, 4, 0, 7})
	want(t, "full", len(u.All()), 256)
}

// P41.4
func TestDrop(t *testing.T) {
	u, _, _ := claim.Table{}.Set(1, claim.Claim{1, a, 5}, 9)
	u, _, _ = u.Set(2, claim.Claim{2, c, 5}, 9)
	for _, q := range []claim.Asked{{2, b, 1, 4, 9, 7}, {1, a, 2, 4, 9, 7}, {3, 3<<20 + 1, 1, 5, 9, 7}, {1, a, 1, 6, 9, 7}} {
		u, _ = u.Convert(q)
	}
	v, l := u.Drop(1)
	told(t, l, []int64{2, api.EvSelectionNotify, int64(b), 1, 4, 0, 7}, []int64{3, api.EvSelectionNotify, 3<<20 + 1, 1, 5, 0, 7})
	_, had := v.Owner(1)
	_, had2 := v.Owner(2)
	want(t, "Drop", !had && had2 && len(v.All()) == 0 && len(u.All()) == 4, true)
	_, _, ok := v.Set(1, claim.Claim{2, c, 4}, 9)
	want(t, "times stay", ok, false)
	v, l = u.Drop(0, c, b)
	told(t, l, []int64{1, api.EvSelectionNotify, int64(a), 2, 4, 0, 7})
	_, had = v.Owner(1)
	_, had2 = v.Owner(2)
	want(t, "windows", had && !had2 && len(v.All()) == 2, true)
	v, l = u.Drop(9, 99)
	want(t, "nobody", len(l) == 0 && len(v.All()) == 4, true)
}
