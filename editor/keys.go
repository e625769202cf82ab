package editor

import (
	"glazier/api"
	"glazier/widget"
)

// The keys.
const (
	keyBack   = 8
	keyEnter  = 13
	keyDelete = 127
	keyLeft   = 130
	keyRight  = 131
	keyHome   = 132
	keyEnd    = 133
	keyUp     = 134
	keyDown   = 135
)

const (
	clipboard = int64(api.Clipboard)
	textType  = int64(api.String)
	transfer  = int64(api.Transfer)
	control   = 4
	shift     = 1
)

// moves tells where the cursor goes by a key.
func moves() map[int]func(p page) int {
	beside := func(lines int) func(page) int {
		return func(p page) int {
			line, column := p.doc.Spot(p.cursor)
			return p.doc.Place(line+lines, column)
		}
	}
	return map[int]func(p page) int{
		keyLeft:  func(p page) int { return p.cursor - 1 },
		keyRight: func(p page) int { return p.cursor + 1 },
		keyHome: func(p page) int {
			line, _ := p.doc.Spot(p.cursor)
			return p.doc.Place(line, 0)
		},
		keyEnd: func(p page) int {
			line, _ := p.doc.Spot(p.cursor)
			return p.doc.Place(line, len(p.doc.Line(line)))
		},
		keyUp:   beside(-1),
		keyDown: beside(1),
	}
}

// edits tells what keys without mods do to the text.
func edits() map[int]func(p page) page {
	return map[int]func(p page) page{
		keyEnter:  func(p page) page { return p.put("\n") },
		keyBack:   func(p page) page { return p.erase(p.cursor - 1) },
		keyDelete: func(p page) page { return p.erase(p.cursor) },
	}
}

// key does what a key does, and tells what it asks.
func (e Editor) key(code, mods int, time int64) (Editor, []api.Request) {
	if mods == control {
		return e.command(code, time)
	}
	if letter, ok := widget.Letter(code, mods); ok {
		e.page = e.put(string([]byte{letter}))
		return e, nil
	}
	if edit, ok := edits()[code]; ok && mods == 0 {
		e.page = edit(e.page)
	}
	if move, ok := moves()[code]; ok && mods <= shift {
		e.page = e.at(move(e.page), mods == shift)
	}
	return e, nil
}

// command does what a key with the mods of commands does.
func (e Editor) command(code int, time int64) (Editor, []api.Request) {
	switch code {
	case 'z':
		e.page = e.become(e.doc.Undo())
	case 'y':
		e.page = e.become(e.doc.Redo())
	case 'a':
		e.anchor, e.cursor = 0, e.doc.Len()
	case 'c':
		low, high := e.marked()
		if low == high {
			return e, nil
		}
		e.copied = e.doc.Text()[low:high]
		return e, []api.Request{{Code: api.ReqSetSelection, N: []int64{int64(e.window), clipboard, time}}}
	case 'v':
		return e, []api.Request{{Code: api.ReqConvertSelection, N: []int64{int64(e.window), clipboard, textType, transfer, time}}}
	}
	return e, nil
}
