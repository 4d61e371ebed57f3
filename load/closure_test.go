package load_test

import (
	"fmt"
	"slices"
	"strings"
	"testing"

	"flyleaf/api"
	"flyleaf/elf"
	"flyleaf/load"
)

// P18.2

// closes asks for a closure, by the files' names.
func closes(t *testing.T, l []api.File, name string, want ...string) {
	t.Helper()
	got, err := closure(t, l, name)
	names := []string{}
	for _, i := range got {
		names = append(names, l[i].Name)
	}
	if err != api.OK || !slices.Equal(names, want) {
		t.Fatalf("Closure(%q): %v %d, want %v", name, names, err, want)
	}
}

// fails asks for a closure that there is not, and for a plan, which says the same.
func fails(t *testing.T, l []api.File, name string, want api.Errno) {
	t.Helper()
	if got, err := closure(t, l, name); err != want {
		t.Fatalf("Closure(%q): %v %d, want %d", name, got, err, want)
	}
	// A room that is none is asked behind all of a closure.
	for _, low := range []int{-1, 0, libLow} {
		if p, err := plan(t, l, name, low, top+1); err != want {
			t.Fatalf("Make(%q): %v %d, want %d", name, p, err, want)
		}
	}
}

// needing is a library that needs others.
func needing(name string, needed ...string) program {
	p := library(name, "of"+name)
	p.needed = needed
	return p
}

func TestClosureExamples(t *testing.T) {
	l := written(needing("d"), root("a", "b", "c"), needing("c", "d", "e"), needing("b", "d"), needing("e"))
	closes(t, l, "a", "a", "b", "c", "d", "e")
	closes(t, l, "b", "b", "d")
	closes(t, l, "c", "c", "d", "e")
	closes(t, l, "d", "d")
	// Breadth first: what b needs comes behind c.
	l = written(root("a", "b", "c"), needing("b", "x"), needing("c", "y"), needing("x", "z"), needing("y"), needing("z"), root("other", "nobody"))
	closes(t, l, "a", "a", "b", "c", "x", "y", "z")
	l = written(root("a", "c", "b", "c", "b"), needing("b", "c"), needing("c", "b", "d"), needing("d", "d", "c"))
	closes(t, l, "a", "a", "c", "b", "d")
	closes(t, l, "d", "d", "c", "b")
	closes(t, written(root("a")), "a", "a")
	closes(t, []api.File{{Name: "bare", Data: elf.Header(image(segment(5, 0, 0, 120, 120)))}}, "bare", "bare")
	// Longest names.
	long := strings.Repeat("n", 24)
	closes(t, written(root("a", long), needing(long)), "a", "a", long)
}

// TestClosureOfRoots asks what a root may be that a library may not be.
func TestClosureOfRoots(t *testing.T) {
	closes(t, written(root("a", "b"), needing("b", "a")), "a", "a", "b")
	closes(t, written(root("a", "a", "b", "a"), needing("b", "b", "a")), "a", "a", "b")
	fails(t, written(root("a", "b"), needing("b", "a")), "b", errLib)
	fails(t, written(root("a", "b"), root("b")), "a", errLib)
	fails(t, written(root("a", "b"), needing("b", "c"), root("c")), "a", errLib)
	closes(t, written(root("a", "b"), root("b")), "b", "b")
	closes(t, written(needing("a", "b"), needing("b", "a")), "a", "a", "b")
}

// broken are files that are no libraries, each with the name of what is wrong with it, and what is told if it is the root.
func broken() ([]api.File, []api.Errno) {
	data := needing("").file().Data
	table := len(data) - 16
	put := func(s string, at int, bytes string) string { return s[:at] + bytes + s[at+len(bytes):] }
	l, told := []api.File{}, []api.Errno{}
	add := func(name, data string, err api.Errno) {
		l, told = append(l, api.File{Name: name, Data: data}), append(told, err)
	}
	of := func(name string, err api.Errno, p program) {
		p.name = name
		l, told = append(l, p.file()), append(told, err)
	}
	add("empty", "", errExec)
	add("text", "hello", errExec)
	add("cut", data[:len(data)-1], errExec)
	add("kind", put(data, 16, "\x04"), errExec)
	add("endless", put(data, table, "\x15"), errLib)
	add("twice", put(data, table, "\x04"), errLib)
	of("nobody", errLib, needing("", "nobody's"))
	of("unnamed", errLib, needing("", ""))
	of("long", errLib, needing("", strings.Repeat("n", 25)))
	return l, told
}

func TestClosureOfBrokenFiles(t *testing.T) {
	l, told := broken()
	for i, f := range l {
		fails(t, l, f.Name, told[i])
		a := append(slices.Clone(l), written(root("a", f.Name), root("b", "c"), needing("c", f.Name), needing("d", "e", "d"), needing("e"))...)
		fails(t, a, "a", errLib)
		fails(t, a, "b", errLib)
		fails(t, a, "c", errLib)
		// A file that nobody needs may be anything.
		closes(t, a, "d", "d", "e")
		// It is of no weight what comes first: one that is there, or one that is not.
		a = append(slices.Clone(l), written(root("a", "d", f.Name, "nobody's"), needing("d"))...)
		fails(t, a, "a", errLib)
		fails(t, a, "nobody's", errNone)
	}
}

func TestClosureOfNothing(t *testing.T) {
	for _, l := range [][]api.File{nil, written(root("a")), written(root("a", "b"))} {
		for _, name := range []string{"", "b", "aa", "A", "a\x00", "\x00", strings.Repeat("a", 24)} {
			fails(t, l, name, errNone)
		}
	}
	fails(t, written(root("a", "b")), "a", errLib)
	fails(t, written(root("a", "aa")), "a", errLib)
	fails(t, written(root("a", "b", "c"), needing("b")), "a", errLib)
	fails(t, written(root("a", "c", "b"), needing("b")), "a", errLib)
}

// TestClosureOfManyFiles has as many as a disk may have: in a chain, in a fan, and as each other's needs.
func TestClosureOfManyFiles(t *testing.T) {
	names := []string{}
	for i := range 64 {
		names = append(names, fmt.Sprint("n", i))
	}
	chain, fan, all := []program{root(names[0], names[1])}, []program{root(names[0], names[1:]...)}, []program{needing(names[0], names...)}
	for i, name := range names[1:] {
		chain = append(chain, needing(name, names[min(i+2, 63)]))
		fan = append(fan, needing(name))
		all = append(all, needing(name, names...))
	}
	for _, l := range [][]program{chain, fan, all} {
		files := written(l...)
		closes(t, files, names[0], names...)
		slices.Reverse(files)
		closes(t, files, names[0], names...)
		if p, err := plan(t, files, names[0], libLow, libHigh); err != api.OK || len(p.Modules) != 64 {
			t.Fatalf("a plan of %d modules: %d", len(p.Modules), err)
		}
	}
	closes(t, written(all...), names[63], append([]string{names[63]}, names[:63]...)...)
}

// disk is some drawn programs, that need each other, and of which some are none.
func (d *draws) disk() []api.File {
	names := []string{"a", "b", "c", "d", "e", "f"}
	l := []api.File{}
	for i := range 1 + d.upTo(len(names)) {
		p := needing(names[i])
		if i == 0 && d.upTo(2) == 0 || d.upTo(30) == 0 {
			p.kind, p.entry = exec, 240
		}
		for range d.upTo(4) {
			p.needed = append(p.needed, names[d.upTo(i+2)%len(names)])
		}
		f := p.file()
		if d.upTo(30) == 0 {
			f.Data = f.Data[:d.upTo(len(f.Data))]
		}
		l = append(l, f)
	}
	return l
}

func TestClosureOfDrawnDisks(t *testing.T) {
	d := draws(185)
	count := map[api.Errno]int{}
	most := 0
	for range 5000 {
		l := d.disk()
		got, err := closure(t, l, []string{"a", "a", "a", "b", "c", "d"}[d.upTo(6)])
		most = max(most, len(got))
		count[err]++
	}
	if count[api.OK] < 500 || count[errNone] < 200 || count[errExec] < 100 || count[errLib] < 500 || most < 6 {
		t.Fatalf("too few of one kind were drawn: %v, %d at most", count, most)
	}
}

func TestClosuresAreTheirOwners(t *testing.T) {
	l := written(root("a", "b"), needing("b"))
	f := opened(t, l)
	a, _ := load.Closure(f, "a")
	clear(a)
	_ = append(a[:1], 7)
	if b, err := load.Closure(f, "a"); err != api.OK || !slices.Equal(b, []int{0, 1}) {
		t.Fatalf("%v %d", b, err)
	}
}
