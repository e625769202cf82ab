package editor

import (
	"strings"

	"glazier/buffer"
)

const (
	letterW  = 4
	letterH  = 6
	ascent   = 5
	mostText = 4096
)

// page is a text, and what of it is seen.
type page struct {
	doc            buffer.Buffer
	cursor, anchor int
	top, left      int // how many lines, and columns, are left out
	columns, rows  int
}

// look is how a row looks: its letters, the columns that are marked, and the cursor's; -1, if it isn't in it.
type look struct {
	letters  string
	from, to int
	cursor   int
}

func (p page) marked() (int, int) {
	return min(p.cursor, p.anchor), max(p.cursor, p.anchor)
}

// inView tells what is left out, so that a place of so many that are seen is seen.
func inView(at, out, seen int) int {
	return max(min(at, out), at-seen+1)
}

// scrolled tells the page on which the cursor is seen.
func (p page) scrolled() page {
	line, column := p.doc.Spot(p.cursor)
	p.top, p.left = inView(line, p.top, p.rows), inView(column, p.left, p.columns)
	return p
}

// look tells the look of the row y.
func (p page) look(y int) look {
	line := p.top + y
	text := p.doc.Line(line)
	letters := ""
	if len(text) > p.left {
		letters = text[p.left:min(len(text), p.left+p.columns)]
	}
	l := look{letters: letters + strings.Repeat(" ", p.columns-len(letters)), cursor: -1}
	if line >= p.doc.Lines() {
		return l
	}
	start := p.doc.Place(line, 0)
	low, high := p.marked()
	// A line's end stands behind its last byte.
	from, to := max(low-start, p.left)-p.left, min(high-start, len(text)+1, p.left+p.columns)-p.left
	if from < to {
		l.from, l.to = from, to
	}
	if at, column := p.doc.Spot(p.cursor); at == line {
		l.cursor = column - p.left
	}
	return l
}

func (p page) looks() []look {
	var l []look
	for y := range p.rows {
		l = append(l, p.look(y))
	}
	return l
}

// without tells the page without the bytes from from up to to, where cursor and anchor are then.
func (p page) without(from, to int) page {
	doc, _ := p.doc.Delete(from, to)
	p.doc, p.cursor, p.anchor = doc, from, from
	return p
}

// cut tells the page without what is marked.
func (p page) cut() page {
	if low, high := p.marked(); low < high {
		return p.without(low, high)
	}
	return p
}

// put puts a text in.
func (p page) put(s string) page {
	p = p.cut()
	if p.doc.Len()+len(s) > mostText {
		return p
	}
	p.doc, _ = p.doc.Insert(p.cursor, s)
	return p.at(p.cursor+len(s), false)
}

// at brings the cursor to a place; the anchor goes along, or stays.
func (p page) at(place int, stays bool) page {
	p.cursor = min(max(place, 0), p.doc.Len())
	if !stays {
		p.anchor = p.cursor
	}
	return p
}

// erase takes away what is marked, or else the byte at a place.
func (p page) erase(at int) page {
	if p.cursor != p.anchor {
		return p.cut()
	}
	if at < 0 || at >= p.doc.Len() {
		return p
	}
	return p.without(at, at+1)
}

// become tells the page with another text of its history.
func (p page) become(doc buffer.Buffer, ok bool) page {
	if !ok {
		return p
	}
	p.doc = doc
	return p.at(p.cursor, false)
}
