// Package copies makes maps that share nothing with those they are made of.
package copies

import (
	"maps"
	"slices"

	"glazier/api"
	"glazier/pen"
)

// Map tells a map with the same keys and values, never a nil one.
func Map[K comparable, V any](m map[K]V) map[K]V {
	n := map[K]V{}
	maps.Copy(n, m)
	return n
}

// Pens tells a map of the same pens, with clips of their own.
func Pens(m map[api.ID]pen.Pen) map[api.ID]pen.Pen {
	n := map[api.ID]pen.Pen{}
	for id, p := range m {
		p.Clip = slices.Clone(p.Clip)
		n[id] = p
	}
	return n
}
