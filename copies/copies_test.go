package copies_test

import (
	"testing"

	"glazier/api"
	"glazier/copies"
	"glazier/pen"
)

func TestCopies(t *testing.T) {
	m := map[int]string{1: "a"}
	n := copies.Map(m)
	n[1], n[2] = "b", "c"
	if len(m) != 1 || m[1] != "a" || copies.Map[int, int](nil) == nil || copies.Pens(nil) == nil {
		t.Error("Map")
	}
	p := map[api.ID]pen.Pen{5: {Clipped: true, Clip: []api.Rect{{W: 1}}}}
	copies.Pens(p)[5].Clip[0].W = 9
	if p[5].Clip[0].W != 1 || !pen.Same(copies.Pens(p)[5], p[5]) {
		t.Error("Pens")
	}
}
