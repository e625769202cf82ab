// Package format is layer 2: forms of fields, and the fields as bytes.
package format

import (
	"slices"
	"strings"

	"glazier/api"
	"glazier/order"
)

const mostFixed = 16

// Form is the layout of a record: fixed numbers, perhaps a text, perhaps a row.
type Form struct {
	Fixed []int
	Bytes bool
	List  int
}

// Fields are what stands in a form.
type Fields struct {
	N []int64
	B string
	L []int64
}

func isSize(size int) bool {
	_, e := order.Row(order.Little, size)
	return e == api.OK
}

func width(size int) int {
	return max(size, -size)
}

// Check tells what is wrong with a form.
func (f Form) Check() api.Errno {
	if len(f.Fixed) > mostFixed {
		return api.ErrMany
	}
	for _, size := range f.Fixed {
		if !isSize(size) {
			return api.ErrKind
		}
	}
	if f.List != 0 && !isSize(f.List) {
		return api.ErrKind
	}
	return api.OK
}

func checkBoth(o int, f Form) api.Errno {
	if o != order.Little && o != order.Big {
		return api.ErrKind
	}
	return f.Check()
}

// padded tells the bytes, filled up by noughts.
func padded(s string) string {
	return s + strings.Repeat("\x00", order.Pad(len(s)))
}

func putFixed(o int, f Form, n []int64) (string, api.Errno) {
	if len(n) != len(f.Fixed) {
		return "", api.ErrMatch
	}
	var b strings.Builder
	for i, v := range n {
		s, e := order.Put(o, f.Fixed[i], v)
		if e != api.OK {
			return "", e
		}
		b.WriteString(s)
	}
	return padded(b.String()), api.OK
}

// counted tells bytes behind how many there are of what they stand for.
func counted(o, n int, s string) string {
	head, _ := order.Put(o, 4, int64(n))
	return head + padded(s)
}

func putText(o int, f Form, s string) (string, api.Errno) {
	switch {
	case s != "" && !f.Bytes:
		return "", api.ErrMatch
	case len(s) > api.MaxBytes:
		return "", api.ErrLong
	case !f.Bytes:
		return "", api.OK
	}
	return counted(o, len(s), s), api.OK
}

func putRow(o int, f Form, l []int64) (string, api.Errno) {
	switch {
	case len(l) > 0 && f.List == 0:
		return "", api.ErrMatch
	case len(l) > api.MaxBytes:
		return "", api.ErrLong
	case f.List == 0:
		return "", api.OK
	}
	s, e := order.Row(o, f.List, l...)
	if e != api.OK {
		return "", e
	}
	return counted(o, len(l), s), api.OK
}

// Put tells the bytes of fields that fit.
func Put(o int, f Form, x Fields) (string, api.Errno) {
	if e := checkBoth(o, f); e != api.OK {
		return "", e
	}
	n, e := putFixed(o, f, x.N)
	if e != api.OK {
		return "", e
	}
	b, e := putText(o, f, x.B)
	if e != api.OK {
		return "", e
	}
	l, e := putRow(o, f, x.L)
	if e != api.OK {
		return "", e
	}
	if len(n)+len(b)+len(l) > api.MaxBytes {
		return "", api.ErrLong
	}
	return n + b + l, api.OK
}

// Get tells the fields whose bytes s is.
func Get(o int, f Form, s string) (Fields, api.Errno) {
	if e := checkBoth(o, f); e != api.OK {
		return Fields{}, e
	}
	if len(s) > api.MaxBytes {
		return Fields{}, api.ErrLong
	}
	whole, fault := s, api.OK
	take := func(n int) string {
		if fault != api.OK || len(s) < n {
			if fault == api.OK {
				fault = api.ErrShort
			}
			return ""
		}
		b := s[:n]
		s = s[n:]
		return b
	}
	// Noughts are looked at one by one: a wrong one ahead of the end is told first.
	fill := func() {
		for range order.Pad(len(whole) - len(s)) {
			if b := take(1); fault == api.OK && b != "\x00" {
				fault = api.ErrForm
			}
		}
	}
	x := getFields(o, f, take, fill)
	if fault == api.OK && s != "" {
		fault = api.ErrForm
	}
	if fault != api.OK {
		return Fields{}, fault
	}
	return x, api.OK
}

// getFields reads part by part by take, which tells nothing where too few bytes are left.
func getFields(o int, f Form, take func(int) string, fill func()) Fields {
	var x Fields
	for _, size := range f.Fixed {
		v, _ := order.Get(o, size, take(width(size)))
		x.N = append(x.N, v)
	}
	fill()
	if f.Bytes {
		n, _ := order.Get(o, 4, take(4))
		x.B = take(int(n))
		fill()
	}
	if f.List != 0 {
		n, _ := order.Get(o, 4, take(4))
		x.L, _ = order.Rows(o, f.List, take(int(n)*width(f.List)))
		fill()
	}
	return x
}

// Same tells whether both have the same numbers, text and row.
func Same(x, y Fields) bool {
	return slices.Equal(x.N, y.N) && x.B == y.B && slices.Equal(x.L, y.L)
}

// Least tells how many bytes the fields of a right form have at least.
func (f Form) Least() int {
	if f.Check() != api.OK {
		return 0
	}
	n := 0
	for _, size := range f.Fixed {
		n += width(size)
	}
	n += order.Pad(n)
	if f.Bytes {
		n += 4
	}
	if f.List != 0 {
		n += 4
	}
	return n
}
