package rights_test

import (
	"slices"
	"testing"

	"glazier/api"
	"glazier/choice"
	"glazier/claim"
	"glazier/rights"
	"glazier/tree"
)

func want[T comparable](t *testing.T, what string, got, wanted T) {
	t.Helper()
	if got != wanted {
		t.Errorf("%s: %v, wanted %v", what, got, wanted)
	}
}

// table is the chapter's, line by line: the codes of a rule, and who may.
var table = []struct {
	codes []int
	may   func(f rights.Facts) bool
}{
	{[]int{9, 10, 11, 12, 17, 18, 19, 20, 21, 22, 23, 24, 25, 38, 40, 42, 44, 46, 47, 48, 51, 57, 58}, func(f rights.Facts) bool { return true }},
	{[]int{2, 7, 8, 26, 27, 28, 29, 30, 31, 32, 33, 34, 35, 36, 50, 52}, func(f rights.Facts) bool { return f.Own }},
	{[]int{1}, func(f rights.Facts) bool { return f.Own || f.Root }},
	{[]int{3, 4, 5, 6, 37, 39, 41, 43, 45, 49}, func(f rights.Facts) bool { return f.Own || f.Managed || f.Framed }},
	{[]int{0}, func(f rights.Facts) bool { return f.Own || f.Root || f.Managed || f.Framed }},
	{[]int{13, 14, 15, 16, 53}, func(f rights.Facts) bool { return f.Own || f.Root || f.Managed || f.Framed || f.Asked }},
	{[]int{54, 55}, func(f rights.Facts) bool { return f.Managed || f.Framed }},
	{[]int{56}, func(f rights.Facts) bool { return f.Managed }},
}

func facts(i int) rights.Facts {
	return rights.Facts{i&1 != 0, i&2 != 0, i&4 != 0, i&8 != 0, i&16 != 0}
}

// P44.1, P44.2, P44.4
func TestTable(t *testing.T) {
	n := 0
	for i, row := range table {
		for _, code := range row.codes {
			n++
			for f := range 32 {
				want(t, "May", rights.May(code, facts(f)), row.may(facts(f)))
				for more := range 32 {
					want(t, "no less", rights.May(code, facts(f)) && !rights.May(code, facts(f|more)), false)
				}
			}
			want(t, "Fault", rights.Fault(code), map[bool]int{true: 0, false: api.BadAccess}[i == 0])
			needs := []int{0}
			switch {
			case i == 0 || code == 0 || code == 56:
				needs = nil
			case code == 1:
				needs = []int{1}
			case code == 6 || code == 27:
				needs = []int{0, 1}
			}
			want(t, "Needs", slices.Equal(rights.Needs(code), needs), true)
		}
	}
	want(t, "all codes", n, 59)
	for _, code := range []int{-1, 59, 1 << 40} {
		want(t, "no code", rights.May(code, facts(31)) || rights.Fault(code) != 0 || len(rights.Needs(code)) != 0, false)
	}
}

// P44.3, P44.4
func TestOf(t *testing.T) {
	const a, b, f = api.ID(1<<20 + 1), api.ID(2<<20 + 1), api.ID(2<<20 + 2)
	u, _ := tree.New().Add(f, 1)
	u, _ = u.Add(a, f)
	u, _ = u.Add(b, 1)
	c, _ := choice.Choice{}.Set(3, 1, api.MaskRedirect)
	c, _ = c.Set(4, f, api.MaskRedirect)
	q, _, _ := claim.Table{}.Set(1, claim.Claim{Client: 5, Window: 5<<20 + 1}, 0)
	q, _ = q.Convert(claim.Asked{Asker: 2, Requestor: b, Selection: 1})
	for _, x := range []struct {
		client int
		id     api.ID
		f      rights.Facts
	}{
		{1, a, rights.Facts{Own: true}}, {2, a, rights.Facts{Framed: true}}, {2, f, rights.Facts{Own: true}}, {3, f, rights.Facts{Managed: true}}, {3, b, rights.Facts{Managed: true}}, {3, a, rights.Facts{}}, {4, a, rights.Facts{Managed: true}}, {3, 1, rights.Facts{Root: true, Managed: true}}, {1, 1, rights.Facts{Root: true}},
		{5, b, rights.Facts{Asked: true}}, {5, a, rights.Facts{}}, {7, 7<<20 + 5, rights.Facts{Own: true}}, {3, 99, rights.Facts{}}, {3, 0, rights.Facts{}}, {0, 1, rights.Facts{Root: true}},
	} {
		want(t, "Of", rights.Of(u, c, q, x.client, x.id), x.f)
	}
}
