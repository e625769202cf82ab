package atom_test

import (
	"slices"
	"strconv"
	"strings"
	"testing"

	"glazier/api"
	"glazier/atom"
)

func want[T comparable](t *testing.T, what string, got, wanted T) {
	t.Helper()
	if got != wanted {
		t.Errorf("%s: %v, wanted %v", what, got, wanted)
	}
}

// P9.1, P9.3
func TestIntern(t *testing.T) {
	var z atom.Table
	_, a, e := z.Intern("incr", false)
	want(t, "incr", a == 7 && e == api.OK, true)
	_, a, e = z.Intern("x", true)
	want(t, "x", a == 0 && e == api.OK, true)
	u, a, e := z.Intern("x", false)
	want(t, "x", a == 11 && e == api.OK, true)
	v, a, e := u.Intern("x", false)
	want(t, "twice", a == 11 && e == api.OK && v.Len() == 11, true)
	_, a, _ = u.Intern("x", true)
	want(t, "there", a, 11)
	w, a, _ := u.Intern("y", false)
	x, b, _ := u.Intern("z", false)
	want(t, "values", a == 12 && b == 12, true)
	n, _ := w.Name(12)
	m, _ := x.Name(12)
	want(t, "values", n+m, "yz")
	want(t, "zero", z.Len(), 10)
	for _, name := range []string{"", strings.Repeat("a", 256), "a\x1f", "a\x7f", "\x80"} {
		y, a, e := u.Intern(name, false)
		want(t, "no name", a == 0 && e == api.ErrName && y.Len() == 11, true)
		_, _, e = u.Intern(name, true)
		want(t, "no name", e, api.ErrName)
	}
	_, a, e = u.Intern(" ", false)
	want(t, "a blank", a == 12 && e == api.OK, true)
	_, a, e = u.Intern(strings.Repeat("~", 255), false)
	want(t, "longest", a == 12 && e == api.OK, true)
}

// P9.1, P9.3
func TestFull(t *testing.T) {
	var u atom.Table
	for i := 11; i <= 1024; i++ {
		var a api.Atom
		var e api.Errno
		if u, a, e = u.Intern("n"+strconv.Itoa(i), false); int(a) != i || e != api.OK {
			t.Fatal(i, a, e)
		}
	}
	v, a, e := u.Intern("more", false)
	want(t, "full", a == 0 && e == api.ErrFull && v.Len() == 1024, true)
	_, a, e = u.Intern("more", true)
	want(t, "only", a == 0 && e == api.OK, true)
	_, a, e = u.Intern("n500", false)
	want(t, "there", a == 500 && e == api.OK, true)
	for i, name := range u.All() {
		n, ok := u.Name(api.Atom(i + 1))
		want(t, "Name", ok && n == name, true)
	}
}

// P9.2
func TestNames(t *testing.T) {
	l := strings.Fields("primary secondary clipboard string integer atoms incr title transfer close")
	want(t, "Known", slices.Equal(atom.Known(), l), true)
	var z atom.Table
	want(t, "All", slices.Equal(z.All(), l), true)
	for _, a := range []api.Atom{0, 11, 1 << 31} {
		n, ok := z.Name(a)
		want(t, "Name", n == "" && !ok, true)
	}
	atom.Known()[0], z.All()[0] = "a", "b"
	n, _ := z.Name(api.Primary)
	want(t, "shared", n+atom.Known()[0], "primaryprimary")
}
