package ways

import (
	"strings"
	"testing"
)

// landed is the last stage that was built.
const landed = 32

// The stages, in order: what they build, and the ways of the language that the document says it leans on.
var stages = []struct{ faces, words string }{
	{"order format", "variadic constant-table closure"},
	{"code pack", "array struct-compared variadic"},
	{"tell stream", "struct-compared label range-function"},
	{"ident stub", "variadic map closure"},
	{"atom prop", "map constant-table closure copy"},
	{"held rect", "range-map map variadic struct-compared"},
	{"band region", "label range-function closure function-field"},
	{"shape gravity", "range-function iota constant-table"},
	{"grid rop", "label copy closure"},
	{"pen line", "variadic function-field range-function closure"},
	{"arc poly", "range-function variadic closure"},
	{"paint blit", "variadic closure label"},
	{"image font", "range-integer copy closure array"},
	{"text tree", "range-function map closure"},
	{"stack place", "closure function-field array map delete struct-compared"},
	{"view expose", "map closure range-function"},
	{"canvas screen", "label map struct-compared range-function"},
	{"choice cross", "label map closure struct-compared"},
	{"focus passive", "variadic struct-compared closure"},
	{"freeze route", "method-value array embedding function-field"},
	{"claim pieces", "variadic map closure function-field array copy"},
	{"saveset rights", "map closure struct-compared constant-table"},
	{"world names", "range-map type-switch map function-field"},
	{"panes draws", "map closure function-field struct-compared"},
	{"hands serve", "variadic map closure embedding promoted"},
	{"server layout", "method-value array method-expression closure"},
	{"widget buffer", "map function-field array embedding promoted"},
	{"editor cells", "embedding map closure label"},
	{"term manager", "method-expression map embedding promoted closure"},
	{"cache link", "range-function three-index label"},
	{"proxy record", "range-function function-field range-map copy"},
	{"script session", "map closure array"},
}

// own tells which ways each package leans on by itself.
var own = map[string]string{
	"order": "variadic constant-table", "format": "closure", "code": "array struct-compared", "pack": "variadic", "tell": "struct-compared", "stream": "label range-function",
	"ident": "variadic map", "stub": "map closure", "atom": "map constant-table", "prop": "closure copy", "held": "range-map map", "rect": "variadic struct-compared",
	"band": "label range-function closure", "region": "closure function-field", "shape": "range-function", "gravity": "iota constant-table", "grid": "label copy", "rop": "closure",
	"pen": "variadic function-field", "line": "range-function variadic closure", "arc": "range-function", "poly": "range-function variadic closure", "paint": "variadic closure", "blit": "label closure",
	"image": "range-integer copy", "font": "closure array", "text": "range-function", "tree": "map closure", "stack": "closure function-field array", "place": "map delete struct-compared",
	"view": "map closure", "expose": "range-function", "canvas": "label map struct-compared", "screen": "range-function", "choice": "label map", "cross": "closure struct-compared",
	"focus": "variadic struct-compared", "passive": "closure struct-compared", "freeze": "method-value array", "route": "embedding function-field array", "claim": "variadic map closure", "pieces": "function-field array copy",
	"saveset": "map closure", "rights": "struct-compared constant-table", "world": "range-map type-switch map", "names": "map function-field", "panes": "map closure function-field", "draws": "map struct-compared",
	"hands": "variadic map closure", "serve": "embedding promoted", "server": "method-value array", "layout": "method-expression closure", "widget": "map function-field array", "buffer": "embedding promoted",
	"editor": "embedding map closure", "cells": "label map", "term": "method-expression map", "manager": "embedding promoted closure", "cache": "range-function three-index", "link": "label",
	"proxy": "range-function function-field", "record": "range-map copy", "script": "map closure array", "session": "map array",
}

func look(t *testing.T, faces, words string) {
	t.Helper()
	missing, err := WaysMissing("..", "glazier", strings.Fields(faces), strings.Fields(words))
	if err != nil {
		t.Fatal(err)
	}
	if len(missing) > 0 {
		t.Errorf("%s: missing: %v", faces, missing)
	}
}

func TestWays(t *testing.T) {
	for _, s := range stages[:landed] {
		look(t, s.faces, s.words)
		for _, f := range strings.Fields(s.faces) {
			look(t, f, own[f])
		}
	}
}
