package widget

import (
	"glazier/api"
	"glazier/font"
	"glazier/rop"
)

// The bits of a pen's change.
const (
	changeFunc = 1
	changeFore = 4
	changeBack = 8
)

// plan is a widget that is drawn, and the requests by which it is.
type plan struct {
	widget      Widget
	window, pen int64
	font        font.Font
	r           api.Rect
	requests    []api.Request
}

func (p *plan) ask(code int, n []int64, text string, row ...int) {
	r := api.Request{Code: code, N: n, B: text}
	for _, v := range row {
		r.L = append(r.L, int64(v))
	}
	p.requests = append(p.requests, r)
}

// change changes the pen's function, fore and back, as the mask has it.
func (p *plan) change(mask, op, fore int64) {
	p.ask(api.ReqChangePen, []int64{p.pen, mask, op, 0, fore, 0, 0}, "")
}

func (p *plan) fill(x, y, w, h int) {
	p.ask(api.ReqFillRects, []int64{p.window, p.pen}, "", x, y, w, h)
}

func (p *plan) height() int { return p.font.Ascent() + p.font.Descent() }

func (p *plan) button() {
	if p.widget.On {
		p.change(changeFunc|changeFore, rop.Xor, 255)
		p.fill(p.r.X, p.r.Y, p.r.W, p.r.H)
	}
}

func (p *plan) field() {
	p.fill(p.r.X+2+p.font.Width(p.widget.Text[:p.widget.Cursor]), p.r.Y+2, 1, p.height())
}

func (p *plan) bar() {
	w, h := p.widget.Value*(p.r.W-2)/mostValue, p.r.H-2
	if w > 0 && h > 0 {
		p.fill(p.r.X+1, p.r.Y+1, w, h)
	}
}

func (p *plan) frame() {
	left, top, right, bottom := p.r.X, p.r.Y, p.r.X+p.r.W-1, p.r.Y+p.r.H-1
	p.ask(api.ReqDrawLines, []int64{p.window, p.pen}, "", left, top, right, top, right, bottom, left, bottom, left, top)
}

func isSide(n int) bool { return 1 <= n && n <= api.MaxSide }

func isPlace(n int) bool { return -mostPlace <= n && n <= mostPlace }

// Draw tells the requests by which it is drawn in a rectangle of a window.
func (w Widget) Draw(window, pen api.ID, f font.Font, r api.Rect) []api.Request {
	if w.Check() != api.OK || !isSide(r.W) || !isSide(r.H) || !isPlace(r.X) || !isPlace(r.Y) {
		return nil
	}
	p := &plan{widget: w, window: int64(window), pen: int64(pen), font: f, r: r}
	k := table()[w.Kind]
	p.ask(api.ReqClipPen, []int64{p.pen, 0, 0, 1}, "", r.X, r.Y, r.W, r.H)
	p.change(changeFunc|changeFore|changeBack, rop.Copy, 0)
	p.fill(r.X, r.Y, r.W, r.H)
	p.change(changeFore, 0, 1)
	if k.framed {
		p.frame()
	}
	if w.Text != "" {
		p.ask(api.ReqDrawText, []int64{p.window, p.pen, int64(r.X + k.left), int64(r.Y + k.top + f.Ascent()), 0}, w.Text)
	}
	k.last(p)
	p.ask(api.ReqClipPen, []int64{p.pen, 0, 0, 0}, "")
	return p.requests
}
