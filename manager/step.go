package manager

import (
	"glazier/api"
	"glazier/ident"
)

// happened does what an event says.
func (m *Manager) happened(o api.Out) []api.Request {
	hears := map[int]func(n []int64) []api.Request{
		api.EvMapRequest:       m.mapAsked,
		api.EvConfigureRequest: m.configureAsked,
		api.EvUnmap:            m.unmapped,
		api.EvDestroy:          func(n []int64) []api.Request { return m.left(n, true) },
		api.EvReparent:         func(n []int64) []api.Request { return m.left(n, n[2] != n[0]) },
		api.EvExpose:           m.exposed,
		api.EvButtonPress:      m.taken,
		api.EvMotion:           m.dragged,
		api.EvButtonRelease: func([]int64) []api.Request {
			m.drag = drag{}
			return nil
		},
	}
	hear, ok := hears[o.Code]
	if !ok {
		return nil
	}
	return hear(o.N)
}

// mapAsked: parent, window.
func (m *Manager) mapAsked(n []int64) []api.Request {
	id := api.ID(n[1])
	if frame, ok := m.Frame(id); ok {
		return []api.Request{window(api.ReqMapWindow, id), window(api.ReqMapWindow, frame)}
	}
	if _, ok := m.awaited[id]; ok {
		return nil
	}
	m.awaited[id] = awaited{geometry: m.asked + 1, title: m.asked + 2}
	return []api.Request{window(api.ReqGetGeometry, id), request(api.ReqGetProperty, "", n[1], int64(api.Title), 0, 0, askedTitle, 0)}
}

// answered does what a reply says: of a geometry parent, x, y, w, h, and more; of a property its row.
func (m *Manager) answered(o api.Out) []api.Request {
	id, ok := m.asks(o.Seq)
	a := m.awaited[id]
	switch {
	case !ok:
		return nil
	case o.Code == api.ReqGetGeometry && o.Seq == a.geometry:
		a.w, a.h = o.N[3], o.N[4]
		m.awaited[id] = a
		return nil
	case o.Code != api.ReqGetProperty || o.Seq != a.title:
		return nil
	}
	delete(m.awaited, id)
	switch {
	case a.w == 0:
		return nil
	case a.w > mostW || a.h > mostH:
		return []api.Request{window(api.ReqMapWindow, id)}
	}
	return m.frame(id, a, o.L)
}

// titleOf makes a title of numbers.
func titleOf(l []int64) string {
	var b []byte
	for _, v := range l[:min(len(l), mostTitle)] {
		if v < ' ' || v > '~' {
			v = '?'
		}
		b = append(b, byte(v))
	}
	return string(b)
}

// frame frames a window.
func (m *Manager) frame(id api.ID, a awaited, title []int64) []api.Request {
	f := framed{frame: m.base + framesAt + api.ID(m.made), w: a.w, h: a.h, title: titleOf(title)}
	at := Spot(m.made, int(a.w)+wider, int(a.h)+higher, api.Rect{W: m.w, H: m.h})
	m.made++
	m.framed[id] = f
	return []api.Request{
		request(api.ReqCreateWindow, "", int64(f.frame), int64(ident.Root), int64(at.X), int64(at.Y), a.w+wider, a.h+higher, back, 1, 1),
		events(f.frame, frameEvents),
		request(api.ReqSaveWindow, "", int64(id), 1),
		request(api.ReqReparentWindow, "", int64(id), int64(f.frame), windowX, windowY),
		window(api.ReqMapWindow, id),
		window(api.ReqMapWindow, f.frame),
		m.drawTitle(f),
	}
}

func (m *Manager) drawTitle(f framed) api.Request {
	return request(api.ReqDrawText, f.title, int64(f.frame), int64(m.base+penAt), titleX, titleY, 1)
}

// configureAsked: parent, window, mask, x, y, w, h, sibling, mode.
func (m *Manager) configureAsked(n []int64) []api.Request {
	id, mask := api.ID(n[1]), n[2]
	f, ok := m.framed[id]
	if !ok {
		return []api.Request{request(api.ReqConfigureWindow, "", append([]int64(nil), n[1:9]...)...)}
	}
	var l []api.Request
	w, h := f.w, f.h
	if mask&hasW != 0 {
		w = n[5]
	}
	if mask&hasH != 0 {
		h = n[6]
	}
	if mask&(hasW|hasH) != 0 && 1 <= w && w <= mostW && 1 <= h && h <= mostH {
		l = append(l, configure(id, hasW|hasH, 0, 0, w, h, 0), configure(f.frame, hasW|hasH, 0, 0, w+wider, h+higher, 0))
		f.w, f.h = w, h
		m.framed[id] = f
	}
	if at := mask & (hasX | hasY); at != 0 {
		l = append(l, configure(f.frame, at, n[3], n[4], 0, 0, 0))
	}
	if mask&hasOrder != 0 {
		l = append(l, configure(f.frame, hasOrder, 0, 0, 0, 0, n[8]))
	}
	return l
}

// isTold tells the frame of a window of which an event is told there: event, window.
func (m *Manager) isTold(n []int64) (api.ID, bool) {
	frame, ok := m.Frame(api.ID(n[1]))
	return frame, ok && int64(frame) == n[0]
}

func (m *Manager) unmapped(n []int64) []api.Request {
	if frame, ok := m.isTold(n); ok {
		return []api.Request{window(api.ReqUnmapWindow, frame)}
	}
	return nil
}

// left takes away the frame of a window that is gone from it: event, window.
func (m *Manager) left(n []int64, gone bool) []api.Request {
	frame, ok := m.isTold(n)
	if !ok || !gone {
		return nil
	}
	delete(m.framed, api.ID(n[1]))
	if m.drag.frame == frame {
		m.drag = drag{}
	}
	return []api.Request{window(api.ReqDestroyWindow, frame)}
}

// exposed: window, x, y, w, h, count.
func (m *Manager) exposed(n []int64) []api.Request {
	id, ok := m.of(n[0])
	if !ok || n[5] != 0 {
		return nil
	}
	return []api.Request{m.drawTitle(m.framed[id])}
}

// taken: window, child, code, state, x, y, rootx, rooty, time.
func (m *Manager) taken(n []int64) []api.Request {
	if _, ok := m.of(n[0]); !ok {
		return nil
	}
	m.drag = drag{api.ID(n[0]), n[4], n[5]}
	return []api.Request{configure(m.drag.frame, hasOrder, 0, 0, 0, 0, 0)}
}

func short(v int64) int64 { return min(max(v, -32768), 32767) }

// dragged has the fields of taken.
func (m *Manager) dragged(n []int64) []api.Request {
	if m.drag.frame == 0 {
		return nil
	}
	return []api.Request{configure(m.drag.frame, hasX|hasY, short(n[6]-m.drag.x), short(n[7]-m.drag.y), 0, 0, 0)}
}
