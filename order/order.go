// Package order is layer 1: whole numbers as bytes, in both byte orders.
package order

import (
	"glazier/api"
)

// The byte orders.
const (
	Little = 0
	Big    = 1
)

// span is what a size has: how many bytes, and its least and greatest number.
type span struct {
	size, bytes int
	least, most int64
}

var spans = [...]span{
	{1, 1, 0, 255},
	{2, 2, 0, 65535},
	{4, 4, 0, 4294967295},
	{-1, 1, -128, 127},
	{-2, 2, -32768, 32767},
	{-4, 4, -2147483648, 2147483647},
}

// find tells what a size has, or what is wrong with the order or the size.
func find(order, size int) (span, api.Errno) {
	if order != Little && order != Big {
		return span{}, api.ErrKind
	}
	for _, s := range spans {
		if s.size == size {
			return s, api.OK
		}
	}
	return span{}, api.ErrSize
}

// shift tells by how many bits the byte at place i of n stands higher.
func shift(order, i, n int) int {
	if order == Big {
		i = n - 1 - i
	}
	return 8 * i
}

func (s span) has(v int64) bool { return s.least <= v && v <= s.most }

// lay puts the number's bytes into b.
func (s span) lay(order int, v int64, b []byte) {
	for i := range b {
		b[i] = byte(uint64(v) >> shift(order, i, len(b)))
	}
}

// read makes the number of exactly as many bytes as the size has.
func (s span) read(order int, b string) int64 {
	var u uint64
	for i := 0; i < len(b); i++ {
		u |= uint64(b[i]) << shift(order, i, len(b))
	}
	v := int64(u)
	if v > s.most {
		v -= s.most - s.least + 1
	}
	return v
}

// Put tells a number's bytes.
func Put(order, size int, v int64) (string, api.Errno) {
	return Row(order, size, v)
}

// Get tells the number whose bytes b is.
func Get(order, size int, b string) (int64, api.Errno) {
	s, e := find(order, size)
	switch {
	case e != api.OK:
		return 0, e
	case len(b) < s.bytes:
		return 0, api.ErrShort
	case len(b) > s.bytes:
		return 0, api.ErrLong
	}
	return s.read(order, b), api.OK
}

// Row tells the bytes of all numbers, one behind the other.
func Row(order, size int, l ...int64) (string, api.Errno) {
	s, e := find(order, size)
	if e != api.OK {
		return "", e
	}
	if len(l) > api.MaxBytes {
		return "", api.ErrMany
	}
	b := make([]byte, len(l)*s.bytes)
	for i, v := range l {
		if !s.has(v) {
			return "", api.ErrRange
		}
		s.lay(order, v, b[i*s.bytes:(i+1)*s.bytes])
	}
	return string(b), api.OK
}

// Rows tells the numbers whose row b is.
func Rows(order, size int, b string) ([]int64, api.Errno) {
	s, e := find(order, size)
	switch {
	case e != api.OK:
		return nil, e
	case len(b) > 4*api.MaxBytes:
		return nil, api.ErrLong
	case len(b)%s.bytes != 0:
		return nil, api.ErrShort
	}
	l := make([]int64, len(b)/s.bytes)
	for i := range l {
		l[i] = s.read(order, b[i*s.bytes:(i+1)*s.bytes])
	}
	return l, api.OK
}

// Pad tells how many bytes fill n up to a number that four divides.
func Pad(n int) int {
	if n < 0 {
		return 0
	}
	return (4 - n%4) % 4
}
