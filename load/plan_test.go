package load_test

import (
	"fmt"
	"math"
	"slices"
	"strings"
	"testing"

	"flyleaf/api"
	"flyleaf/elf"
	"flyleaf/files"
	"flyleaf/load"
	"flyleaf/symbol"
)

// P18.3

// plans asks for a plan that there is.
func plans(t *testing.T, l []api.File, name string, low, high int) api.Plan {
	t.Helper()
	p, err := plan(t, l, name, low, high)
	if err != api.OK {
		t.Fatalf("Make(%q, %d, %d): %d", name, low, high, err)
	}
	return p
}

// refuses asks for a plan that there is not.
func refuses(t *testing.T, l []api.File, name string, low, high int, want api.Errno) {
	t.Helper()
	if p, err := plan(t, l, name, low, high); err != want {
		t.Fatalf("Make(%q, %d, %d): %v %d, want %d", name, low, high, p, err, want)
	}
}

// with is a program with these relocations of its i-th symbol's.
func (p program) with(l ...api.Reloc) program {
	p.relocs = l
	return p
}

// asks is a program that asks, by its words in order, for symbols of these names that others have.
func (p program) asks(names ...string) program {
	for _, name := range names {
		p.symbols = append(p.symbols, own{name: name})
		p.relocs = append(p.relocs, api.Reloc{At: p.at(len(p.relocs)), Kind: relocData, Symbol: len(p.symbols)})
	}
	return p
}

// bases are the places of a plan's modules.
func bases(p api.Plan) []int {
	l := []int{}
	for _, m := range p.Modules {
		l = append(l, m.Base)
	}
	return l
}

// values are what a plan puts.
func values(p api.Plan) []uint64 {
	l := []uint64{}
	for _, put := range p.Puts {
		l = append(l, put.Value)
	}
	return l
}

func TestMakeOfAnExample(t *testing.T) {
	a := root("a", "b", "c").asks("g", "f")
	a.tail = 200
	b := library("b", "f").with(api.Reloc{At: 256, Kind: relocBase, Add: -2}, api.Reloc{At: 272, Kind: relocJump, Symbol: 1})
	c := library("c", "f", "g")
	c.gap, c.shift = 1, 8
	c = c.asks("f")
	c.relocs = append(c.relocs, api.Reloc{At: c.at(1), Kind: relocWord, Symbol: 2, Add: 1000})
	l := written(c, a, b)
	p := plans(t, l, "a", 6400, 64000)
	na, nb, nc := a.span(), b.span(), c.span()
	bb, cb := 6400, 6400+nb
	want := api.Plan{
		Entry:   236,
		Modules: []api.Module{{File: 1, Base: 0, Name: "a"}, {File: 2, Base: bb, Name: "b"}, {File: 0, Base: cb, Name: "c"}},
		Puts: []api.Put{
			{At: 256, Value: uint64(cb + 241)}, {At: 264, Value: uint64(bb + 240)},
			{At: bb + 256, Value: uint64(bb - 2)}, {At: bb + 272, Value: uint64(bb + 240)},
			{At: cb + 328, Value: uint64(bb + 240)}, {At: cb + 336, Value: uint64(cb + 241 + 1000)},
		},
	}
	of := func(p program, base, number int) {
		data, _, _ := p.tables()
		first, from, to := base/page, (base+p.at(0))/page, (base+p.at(0)+len(data)+page-1)/page
		want.Regions = append(want.Regions, api.Region{From: first, To: first + 4, Perm: 5, Kind: kindFile, File: number})
		want.Regions = append(want.Regions, api.Region{From: from, To: to, Perm: 6, Kind: kindFile, File: number, Page: 4})
		if end := (base + p.span()) / page; end > to {
			want.Regions = append(want.Regions, api.Region{From: to, To: end, Perm: 6, Kind: kindZero, File: -1})
		}
		at := base + p.at(0) + len(data)
		if at%page == 0 {
			t.Fatalf("%s ends with a page: the example is to have zeros", p.name)
		}
		want.Zeros = append(want.Zeros, api.Extent{At: at, N: page - at%page})
	}
	of(a, 0, 1)
	of(b, bb, 2)
	of(c, cb, 0)
	// No two of these regions are one: what may be done with code and with data is not the same.
	if !equal(p, want) || na > 6400 || cb+nc > 64000 {
		t.Fatalf("%v, want %v", p, want)
	}
}

func TestMakeEntries(t *testing.T) {
	for entry := 200; entry < 256; entry++ {
		a := root("a")
		a.entry = entry
		if p := plans(t, written(a), "a", libLow, libHigh); p.Entry != entry {
			t.Fatalf("Entry %d, want %d", p.Entry, entry)
		}
		b := library("b")
		b.entry = entry
		if p := plans(t, written(b), "b", libLow, libHigh); p.Entry != libLow+entry {
			t.Fatalf("Entry %d, want %d", p.Entry, libLow+entry)
		}
	}
	if p := plans(t, written(library("b")), "b", 640, libHigh); p.Entry != 640 {
		t.Fatalf("Entry %d, want 640", p.Entry)
	}
}

// TestMakeTellsTheFilesName asks that modules have their files' names, whatever they say that theirs are.
func TestMakeTellsTheFilesName(t *testing.T) {
	text := "libc\x00" + strings.Repeat("x", 1000)
	l := written(needing("libc", "b"), needing("b"))
	if p := plans(t, l, text[:4], libLow, libHigh); p.Modules[0].Name != "libc" || p.Modules[1].Name != "b" {
		t.Fatalf("%v", p.Modules)
	}
}

// P18.3: errors, one ahead of the other

func TestMakeErrorsInTheirOrder(t *testing.T) {
	a, b := root("a", "b"), library("b", "somebody's").asks("somebody's")
	n, size := a.span(), b.span()
	good, bad := written(a, b), written(a, library("b", "somebody's").asks("nobody's"))
	plans(t, good, "a", n, n+size)
	// The closure's errors are ahead of all others (fails asks it); then comes the root's span.
	refuses(t, good, "a", n-1, n+size, errExec)
	refuses(t, good, "a", n-64, n+size, errExec)
	refuses(t, good, "a", 0, 0, errExec)
	refuses(t, good, "a", n-1, top+64, errExec)
	refuses(t, good, "a", -64, -128, errExec)
	refuses(t, good, "a", math.MinInt, math.MaxInt, errExec)
	refuses(t, bad, "a", 0, 0, errExec)
	// Then the room.
	refuses(t, good, "a", n, top+64, errArg)
	refuses(t, good, "a", n, top+1, errArg)
	refuses(t, good, "a", n, 1<<40, errArg)
	refuses(t, good, "a", top+64, top+64, errArg)
	refuses(t, good, "a", n, math.MaxInt, errArg)
	refuses(t, bad, "a", n, top+64, errArg)
	refuses(t, bad, "a", n+1, top, errArg)
	refuses(t, good, "a", n+1, top, errArg)
	refuses(t, good, "a", n, top-1, errArg)
	refuses(t, good, "a", n+64, n, errArg)
	refuses(t, good, "a", n, math.MinInt, errArg)
	refuses(t, bad, "a", n, n+size-64, errMem)
	refuses(t, good, "a", n, n+size-64, errMem)
	refuses(t, good, "a", n, n, errMem)
	refuses(t, good, "a", top, top, errMem)
	// Then the relocations.
	refuses(t, bad, "a", n, n+size, errLib)
	plans(t, good, "a", n, top)
	plans(t, good, "a", top-size, top)
}

// TestMakeOfARoomForNothing asks that the room of a root that needs nothing must be one, too.
func TestMakeOfARoomForNothing(t *testing.T) {
	l := written(root("a"))
	n := root("a").span()
	plans(t, l, "a", n, n)
	plans(t, l, "a", top, top)
	for _, low := range edges {
		for _, high := range append(edges, n-1, n, n+1, n+64) {
			plan(t, l, "a", low, high)
			plan(t, l, "a", high, low)
		}
	}
	refuses(t, l, "a", n, n-64, errArg)
	refuses(t, l, "a", n+1, top, errArg)
	refuses(t, l, "a", n, top+64, errArg)
}

// TestMakeOfLibrariesAsRoots asks that they are placed like all others.
func TestMakeOfLibrariesAsRoots(t *testing.T) {
	l := written(needing("a", "b"), needing("b"))
	n, m := needing("a", "b").span(), needing("b").span()
	if got := bases(plans(t, l, "a", 0, n+m)); !slices.Equal(got, []int{0, n}) {
		t.Fatalf("%v", got)
	}
	if got := bases(plans(t, l, "b", top-m, top)); !slices.Equal(got, []int{top - m}) {
		t.Fatalf("%v", got)
	}
	refuses(t, l, "a", 0, n+m-64, errMem)
	refuses(t, l, "a", 64, n+m, errMem)
	refuses(t, l, "a", -64, n+m, errArg)
	refuses(t, l, "a", 1, n+m, errArg)
	refuses(t, l, "a", 0, top+64, errArg)
	for _, low := range edges {
		for _, high := range edges {
			plan(t, l, "a", low, high)
		}
	}
}

// TestMakeOfSlots asks that libraries go where they like to be, and roots that are begun do not.
func TestMakeOfSlots(t *testing.T) {
	of := func(a, b, c int) []api.File {
		p, q, r := root("a", "b", "c"), needing("b"), needing("c")
		p.slot, q.slot, r.slot = a, b, c
		return written(p, q, r)
	}
	n := needing("b").span()
	is := func(l []api.File, want ...int) {
		t.Helper()
		if got := bases(plans(t, l, "a", libLow, libHigh)); !slices.Equal(got, want) {
			t.Fatalf("%v, want %v", got, want)
		}
	}
	is(of(0, 0, 0), 0, libLow, libLow+n)
	is(of(64000, 0, 0), 0, libLow, libLow+n)
	is(of(0, 64000, 0), 0, 64000, libLow)
	is(of(0, 64000, 64000), 0, 64000, libLow)
	is(of(0, 64000, 64000+n), 0, 64000, 64000+n)
	is(of(0, libLow, 0), 0, libLow, libLow+n)
	is(of(0, libLow+64, 0), 0, libLow+64, libLow+64+n)
	is(of(0, libLow+n, 0), 0, libLow+n, libLow)
	is(of(0, 0, libLow), 0, libLow, libLow+n)
	is(of(0, libHigh-n, libHigh-n+64), 0, libHigh-n, libLow)
	is(of(0, 64001, 64), 0, libLow, libLow+n)
	is(of(0, 1<<40, 1<<39), 0, libLow, libLow+n)
	b := library("b")
	b.slot = 6400
	if got := bases(plans(t, written(b), "b", 640, libHigh)); !slices.Equal(got, []int{6400}) {
		t.Fatalf("a root that is a library: %v", got)
	}
}

// P18.3: symbols

// TestMakeFindsTheFirstSymbol asks which of the modules that have a name's symbol is taken.
func TestMakeFindsTheFirstSymbol(t *testing.T) {
	for n := range 16 {
		// Of the modules a, b, c, d those have the symbol whose bits n has; c asks for it, once more by its own.
		l := []program{root("a", "b", "c"), needing("b", "d"), needing("c"), needing("d")}
		first := -1
		for i := range l {
			if i == 2 {
				l[2].symbols = append(l[2].symbols, own{"s", n>>2&1 == 1, 90})
				l[2].relocs = []api.Reloc{{At: l[2].at(0), Kind: relocData, Symbol: 2}}
			} else {
				l[i].symbols = append(l[i].symbols, own{"s", n>>i&1 == 1, 70 + i})
			}
			if n>>i&1 == 1 && first < 0 {
				first = i
			}
		}
		files := written(l...)
		if first < 0 {
			refuses(t, files, "a", libLow, libHigh, errLib)
			continue
		}
		p := plans(t, files, "a", libLow, libHigh)
		value := map[int]int{0: 70, 1: 71, 2: 90, 3: 73}[first]
		if p.Puts[0].Value != uint64(p.Modules[first].Base+value) {
			t.Fatalf("symbols of %04b: %v", n, p)
		}
	}
}

func TestMakeOfSymbolsValues(t *testing.T) {
	for _, value := range []int{0, 1, 240, 4096, top, 1<<40 - 1, 1 << 40} {
		a, b := root("a", "b").asks("f"), library("b")
		b.symbols = []own{{"f", true, value}}
		p := plans(t, written(a, b), "a", libLow, libHigh)
		if p.Puts[0].Value != uint64(libLow+value) {
			t.Fatalf("%v of the value %d", p.Puts, value)
		}
	}
	a, b := root("a", "b").asks("f"), library("b")
	b.symbols = []own{{"f", true, 1<<40 + 1}}
	refuses(t, written(a, b), "a", libLow, libHigh, errLib)
}

// TestMakeOfOwnSymbols asks what the symbol must be that is asked for by its number.
func TestMakeOfOwnSymbols(t *testing.T) {
	one := func(s own, number int, want api.Errno) {
		t.Helper()
		a := root("a", "b").with(api.Reloc{At: 256, Kind: relocJump, Symbol: number})
		a.symbols = []own{s}
		b := library("b", "f")
		// A symbol of an empty name is in the way of those that ask for none.
		b.symbols = append(b.symbols, own{"", true, 99})
		refuses(t, written(a, b), "a", libLow, libHigh, want)
	}
	one(own{"f", false, 0}, 1, api.OK)
	one(own{"f", true, 0}, 1, api.OK)
	one(own{"f", false, 1 << 40}, 1, api.OK)
	one(own{"f", false, 1<<40 + 1}, 1, errLib)
	one(own{"g", false, 0}, 1, errLib)
	one(own{"ff", false, 0}, 1, errLib)
	one(own{"", false, 0}, 1, errLib)
	one(own{"", true, 77}, 1, errLib)
	one(own{"f", false, 0}, 1<<32-1, errLib)
	one(own{"f", false, 0}, 1<<20, errLib)
	one(own{strings.Repeat("f", 25), true, 0}, 1, errLib)
	one(own{strings.Repeat("f", 24), true, 0}, 1, api.OK)
}

// TestMakeOfNoSymbolAtAll has a name that could be found at the place at which a symbol that is none would have its own.
func TestMakeOfNoSymbolAtAll(t *testing.T) {
	// The second symbol's value is above 2^40; the others are behind the view.
	for _, number := range []int{2, 1000, 1<<32 - 1} {
		a := root("a").with(api.Reloc{At: 256, Kind: relocJump, Symbol: number})
		a.tight, a.symbols = true, []own{{"f", true, 70}, {"f", true, 1<<40 + 1}}
		if m, _ := read(written(a), 0); m.view[m.table.Names:][:2] != "f\x00" {
			t.Fatal("the names begin with another one")
		}
		refuses(t, written(a), "a", libLow, libHigh, errLib)
		a.relocs[0].Symbol = 1
		plans(t, written(a), "a", libLow, libHigh)
	}
}

// TestMakeOfNamesThatEndAlike asks for names of which one ends, or begins, with the other one.
func TestMakeOfNamesThatEndAlike(t *testing.T) {
	names := []string{"f", "ff", "xf", "fx", "fxf", "xff"}
	a := root("a", "b")
	a.words = 12
	a = a.asks(append(names, names...)...)
	want := []uint64{}
	for i := range a.words {
		want = append(want, uint64(libLow+240+i%6))
	}
	if got := values(plans(t, written(a, library("b", names...)), "a", libLow, libHigh)); !slices.Equal(got, want) {
		t.Fatalf("%v, want %v", got, want)
	}
}

// TestMakeOfEmptyNames has a hash table in which a symbol of an empty name could be found.
func TestMakeOfEmptyNames(t *testing.T) {
	p := library("b", "f")
	p.symbols[0].defined = true
	p = p.with(api.Reloc{At: p.at(0), Kind: relocJump, Symbol: 1})
	_, _, d := p.tables()
	f := p.file()
	// The symbol's place of its name is set to that of the empty one; of two chains the empty name's is the first one.
	at := d.Symbols + 24
	data := f.Data[:at] + "\x00" + f.Data[at+1:]
	chains := []byte(data)
	chains[d.Hash+8] = 1
	f.Data = string(chains)
	m, _ := read([]api.File{f}, 0)
	if _, ok := symbol.Find(m.view, m.table, ""); !ok {
		t.Fatal("there is no symbol of an empty name")
	}
	refuses(t, []api.File{f}, "b", libLow, libHigh, errLib)
}

// P18.3: relocations

// put is a program's one relocation.
func put(p program, r api.Reloc) []api.File {
	return written(p.with(r))
}

func TestMakeOfValues(t *testing.T) {
	for _, add := range []int64{0, 1, -1, 16, -libLow, -libLow - 1, 1 << 40, math.MaxInt64, math.MinInt64} {
		for _, kind := range []int{relocWord, relocData, relocJump} {
			p := plans(t, put(library("b", "f"), api.Reloc{At: 256, Kind: kind, Symbol: 1, Add: add}), "b", libLow, libHigh)
			want := uint64(libLow + 240)
			if kind == relocWord {
				want += uint64(add)
			}
			if !slices.Equal(values(p), []uint64{want}) {
				t.Fatalf("kind %d and %d: %v, want %d", kind, add, p.Puts, want)
			}
		}
		p := plans(t, put(library("b", "f"), api.Reloc{At: 256, Kind: relocBase, Add: add}), "b", libLow, libHigh)
		if !slices.Equal(p.Puts, []api.Put{{At: libLow + 256, Value: libLow + uint64(add)}}) {
			t.Fatalf("%d: %v", add, p.Puts)
		}
		p = plans(t, put(root("a"), api.Reloc{At: 256, Kind: relocBase, Add: add}), "a", libLow, libHigh)
		if !slices.Equal(p.Puts, []api.Put{{At: 256, Value: uint64(add)}}) {
			t.Fatalf("%d: %v", add, p.Puts)
		}
	}
}

func TestMakeOfKinds(t *testing.T) {
	for kind := range 20 {
		for number := range 2 {
			want := api.Errno(errLib)
			if kind == relocBase && number == 0 || number == 1 && (kind == relocWord || kind == relocData || kind == relocJump) {
				want = api.OK
			}
			refuses(t, put(library("b", "f"), api.Reloc{At: 256, Kind: kind, Symbol: number}), "b", libLow, libHigh, want)
		}
	}
}

// TestMakeOfAllPlaces puts a relocation at each byte of a program.
func TestMakeOfAllPlaces(t *testing.T) {
	for _, p := range []program{library("b", "f"), rich()} {
		for _, flags := range []int{6, 2, 3, 7, 4, 5, 0} {
			p.name, p.flags, p.needed = "b", flags, nil
			q := p.with(api.Reloc{})
			ok := 0
			for at := -1; at < q.span()+10; at++ {
				for _, r := range []api.Reloc{{At: at, Kind: relocBase}, {At: at, Kind: relocData, Symbol: 1}} {
					if _, err := plan(t, put(p, r), "b", libLow, libHigh); err == api.OK {
						ok++
					}
				}
			}
			s := q.image().Segments[1]
			if want := 2 * (s.Mem - 7); flags&2 != 0 && ok != want || flags&2 == 0 && ok != 0 {
				t.Fatalf("%d places of flags %d, want %d", ok, flags, want)
			}
		}
	}
}

// split is a program of some segments behind each other, in which its tables are in the last one; its one relocation is at at.
func split(at int, flags ...int) api.File {
	p := library("b", "f").with(api.Reloc{At: at, Kind: relocBase})
	// The tables stand behind as many pages as there are other segments.
	p.gap = len(flags)
	x := p.image()
	l := []api.Segment{x.Segments[0]}
	for i, f := range flags {
		l = append(l, segment(f, 0, 256+i*page, page, page))
	}
	x.Segments = append(l, x.Segments[1:]...)
	head := elf.Header(x)
	data := p.file().Data
	// Headers of more segments take more bytes than there are in the first page: so the file's parts move.
	more := page * ((len(head) + page - 1) / page)
	for i := range x.Segments {
		if i > len(flags) {
			x.Segments[i].Off += more
		}
	}
	head = elf.Header(x)
	return api.File{Name: "b", Data: head + strings.Repeat("c", more+256-len(head)) + data[256:]}
}

// TestMakeOfPlacesWithinOneSegment asks that a place may not go on from one segment to the next one.
func TestMakeOfPlacesWithinOneSegment(t *testing.T) {
	for _, flags := range [][]int{{6, 6}, {6, 2}, {5, 6}, {6, 4}, {2, 0, 7}, {7, 6, 4}} {
		for at := 240; at < 256+page*(len(flags)+1)+20; at++ {
			want := api.Errno(errLib)
			for i, f := range append(flags, 6) {
				from := 256 + i*page
				// The tables' segment is longer than a page.
				if f&2 != 0 && at >= from && (at+8 <= from+page || i == len(flags)) {
					want = api.OK
				}
			}
			refuses(t, []api.File{split(at, flags...)}, "b", libLow, libHigh, want)
		}
	}
}

func TestMakeOfRelocationsThatAreNone(t *testing.T) {
	p := library("b", "f").with(api.Reloc{At: 256, Kind: relocBase})
	a := root("a", "b")
	_, at, _ := p.tables()
	f := p.file()
	data := f.Data[256:]
	for _, tag := range []int{7, 8} {
		for i := at; i < len(data); i += 16 {
			if int(data[i]) != tag {
				continue
			}
			for _, value := range []string{"\x00", "\x01", "\x18", "\x30", "\xff"} {
				l := []api.File{a.file(), {Name: "b", Data: f.Data[:256+i+8] + value + f.Data[256+i+9:]}}
				plan(t, l, "a", libLow, libHigh)
			}
			refuses(t, []api.File{a.file(), {Name: "b", Data: f.Data[:256+i+10] + "\xff" + f.Data[256+i+11:]}}, "a", libLow, libHigh, errLib)
		}
	}
}

// TestMakeOfOneWrongRelocation has it at each place among others, in each of the modules.
func TestMakeOfOneWrongRelocation(t *testing.T) {
	for n := range 3 {
		for i := range 4 {
			for _, wrong := range []api.Reloc{{At: 0, Kind: relocBase}, {At: 256, Kind: 2}, {At: 256, Kind: relocBase, Symbol: 1}, {At: 256, Kind: relocJump, Symbol: 9999}, {At: 1 << 40, Kind: relocBase}} {
				l := []program{root("a", "b", "c"), library("b", "f"), library("c", "g")}
				for k := range l {
					for j := range 4 {
						l[k].relocs = append(l[k].relocs, api.Reloc{At: l[k].at(j), Kind: relocBase})
					}
				}
				plans(t, written(l...), "a", libLow, libHigh)
				l[n].relocs[i] = wrong
				refuses(t, written(l...), "a", libLow, libHigh, errLib)
			}
		}
	}
}

// TestMakeOfManyRelocations asks for one name again and again, behind many libraries.
func TestMakeOfManyRelocations(t *testing.T) {
	a := root("a")
	l := []program{}
	for i := range 40 {
		name := fmt.Sprint("n", i)
		a.needed = append(a.needed, name)
		l = append(l, library(name, "of"+name))
	}
	a.symbols = []own{{name: "ofn39"}, {name: "ofn20"}}
	a.words = 3000
	for i := range a.words {
		a.relocs = append(a.relocs, api.Reloc{At: a.at(i), Kind: relocWord, Symbol: 1 + i%2, Add: int64(i)})
	}
	p := plans(t, written(append(l, a)...), "a", a.span(), top)
	for i, put := range p.Puts {
		if put.At != 256+8*i || put.Value != uint64(p.Modules[40-i%2*19].Base+240+i) {
			t.Fatalf("put %d: %v", i, put)
		}
	}
	if len(p.Puts) != 3000 {
		t.Fatalf("%d puts", len(p.Puts))
	}
}

// P18.3: regions

// TestMakeJoinsRegions has libraries that go on where others end.
func TestMakeJoinsRegions(t *testing.T) {
	head := func(l ...api.Segment) string { return octets(elf.Header(image(l...)), 320) }
	zero := func(addr, pages int) api.Segment { return segment(6, 0, addr, 0, pages*page) }
	file := func(addr, off, pages int) api.Segment { return segment(6, off, addr, pages*page, pages*page) }
	l := []api.File{
		{Name: "zeros", Data: head(zero(0, 2), zero(128, 1))},
		{Name: "parts", Data: head(file(0, 0, 1), file(64, 64, 2), file(192, 256, 1))},
		{Name: "both", Data: head(zero(0, 1), file(64, 0, 1), zero(128, 2))},
	}
	is := func(name string, want ...api.Region) {
		t.Helper()
		if p := plans(t, l, name, 640, libHigh); !slices.Equal(p.Regions, want) {
			t.Fatalf("%s: %v, want %v", name, p.Regions, want)
		}
	}
	is("zeros", api.Region{From: 10, To: 13, Perm: 6, Kind: kindZero, File: -1})
	is("parts", api.Region{From: 10, To: 13, Perm: 6, Kind: kindFile, File: 1}, api.Region{From: 13, To: 14, Perm: 6, Kind: kindFile, File: 1, Page: 4})
	is("both", api.Region{From: 10, To: 11, Perm: 6, Kind: kindZero, File: -1}, api.Region{From: 11, To: 12, Perm: 6, Kind: kindFile, File: 2}, api.Region{From: 12, To: 14, Perm: 6, Kind: kindZero, File: -1})
}

// octets is a text with bytes 0 up to n.
func octets(s string, n int) string {
	return s + strings.Repeat("\x00", n-len(s))
}

// TestMakeOfRegionsInOneRow has a library placed ahead of one that comes first, and two whose zeros touch.
func TestMakeOfRegionsInOneRow(t *testing.T) {
	a, b, c := root("a", "b", "c"), library("b"), library("c")
	n := a.span()
	b.slot = 64 * 300
	p := plans(t, written(a, b, c), "a", n, libHigh)
	if !slices.Equal(bases(p), []int{0, 64 * 300, n}) || p.Regions[2].File != 2 || p.Regions[4].File != 1 || len(p.Regions) != 6 {
		t.Fatalf("%v", p)
	}
	if len(p.Zeros) != 3 || p.Zeros[1].At < 64*300 || p.Zeros[2].At > 64*300 {
		t.Fatalf("the zeros are not in the modules' order: %v", p.Zeros)
	}
	zeros := image(segment(6, 0, 0, 0, 2*page))
	b.tail, b.needed = 256, []string{"z"}
	l := append(written(b), api.File{Name: "z", Data: elf.Header(zeros)})
	p = plans(t, l, "b", 64*300, libHigh)
	if last := p.Regions[len(p.Regions)-1]; len(p.Regions) != 3 || last.Kind != kindZero || last.To*page != p.Modules[1].Base+2*page || last.From*page >= p.Modules[1].Base {
		t.Fatalf("%v", p)
	}
}

// P18.3: drawn

// linked is some drawn programs that need and ask for each other, and of which some have faults.
func (d *draws) linked(faults int) []program {
	names := []string{"a", "b", "c", "d", "e"}
	many := 1 + d.upTo(len(names))
	l := []program{}
	for i := range many {
		p := library(names[i], []string{"f", "g", "h", "i", "j"}[d.upTo(5)], "of"+names[i])
		if i == 0 && d.upTo(3) > 0 {
			p.kind, p.entry = exec, 236+d.upTo(20)
		} else if d.upTo(3) == 0 {
			p.entry = 236 + d.upTo(20)
		}
		p.gap, p.shift, p.tail, p.flags = d.upTo(3), d.upTo(page), d.upTo(2)*d.upTo(300), []int{6, 7, 2, 3}[d.upTo(4)]
		if d.upTo(3) == 0 {
			p.slot = page * d.upTo(100)
		}
		for range d.upTo(3) {
			p.needed = append(p.needed, names[d.upTo(many)])
		}
		if i == 0 {
			p.needed = names[1:many]
		}
		for n := range p.words {
			r := api.Reloc{At: p.at(n), Kind: relocBase, Add: int64(d.upTo(1000)) - 500}
			if d.upTo(2) == 0 {
				p.symbols = append(p.symbols, own{"of" + names[d.upTo(many)], false, 0})
				r.Kind, r.Symbol = []int{relocWord, relocData, relocJump}[d.upTo(3)], len(p.symbols)
			}
			p.relocs = append(p.relocs, r)
		}
		l = append(l, p)
	}
	for range faults {
		d.spoil(&l[d.upTo(many)])
	}
	return l
}

// spoil has a program say what may be wrong.
func (d *draws) spoil(p *program) {
	r := &p.relocs[d.upTo(len(p.relocs))]
	switch d.upTo(8) {
	case 0:
		r.At = d.upTo(p.span() + 10)
	case 1:
		r.Kind = d.upTo(10)
	case 2:
		r.Symbol = d.upTo(10)
	case 3:
		p.symbols[d.upTo(len(p.symbols))].name = []string{"", "f", "k"}[d.upTo(3)]
	case 4:
		p.symbols[d.upTo(len(p.symbols))].defined = d.upTo(2) == 0
	case 5:
		p.flags = d.upTo(8)
	case 6:
		p.needed = append(p.needed, "z")
	case 7:
		p.kind, p.entry = exec+d.upTo(2), 240
	}
}

func TestMakeOfDrawnPrograms(t *testing.T) {
	d := draws(186)
	count := map[api.Errno]int{}
	for range 8000 {
		l := written(d.linked(d.upTo(2) * d.upTo(3))...)
		low := page * (12 + d.upTo(40))
		high := low + page*d.upTo(60)
		if d.upTo(10) == 0 {
			low += d.upTo(3) - 1
		}
		if d.upTo(20) == 0 {
			high = top + 64*(1-d.upTo(3))
		}
		_, err := plan(t, l, []string{"a", "a", "a", "b", "c"}[d.upTo(5)], low, high)
		count[err]++
	}
	if count[api.OK] < 1000 || count[errNone] < 100 || count[errExec] < 100 || count[errArg] < 100 || count[errMem] < 200 || count[errLib] < 500 {
		t.Fatalf("too few of one kind were drawn: %v", count)
	}
}

// TestMakeWithEachByteChanged sets each byte of a library that another program needs to others.
func TestMakeWithEachByteChanged(t *testing.T) {
	a := root("a", "rich").asks("f", "h")
	p := rich()
	p.needed = nil
	l := written(a, p)
	count := map[api.Errno]int{}
	for n := range l {
		data := l[n].Data
		for at := range data {
			for _, c := range []byte{data[at] ^ 1, data[at] + 1, 0, 255, 128} {
				b := []byte(data)
				b[at] = c
				m := slices.Clone(l)
				m[n].Data = string(b)
				_, err := plan(t, m, "a", libLow, libHigh)
				count[err]++
			}
		}
	}
	if count[api.OK] < 100 || count[errExec] < 100 || count[errLib] < 100 {
		t.Fatalf("too few of one kind: %v", count)
	}
}

// P18.4

// TestPutsGoWithTheirModules places libraries elsewhere.
func TestPutsGoWithTheirModules(t *testing.T) {
	d := draws(187)
	moved, apart := 0, 0
	for range 4000 {
		l := written(d.linked(0)...)
		f := opened(t, l)
		low, other := page*(12+d.upTo(200)), page*(12+d.upTo(200))
		p, err := load.Make(f, "a", low, libHigh)
		q, fault := load.Make(f, "a", other, libHigh)
		_, whose, _ := made(l, "a", low, libHigh)
		if err != api.OK || fault != api.OK {
			continue
		}
		if len(p.Puts) != len(q.Puts) || len(p.Puts) != len(whose) || len(p.Modules) != len(q.Modules) {
			t.Fatalf("%v, elsewhere %v", p, q)
		}
		by := func(i int) int { return q.Modules[i].Base - p.Modules[i].Base }
		for i, w := range whose {
			if q.Puts[i].At-p.Puts[i].At != by(w[0]) || q.Puts[i].Value-p.Puts[i].Value != uint64(by(w[1])) {
				t.Fatalf("put %d of module %d, meant to be in %d: %v, elsewhere %v", i, w[0], w[1], p, q)
			}
			if by(w[1]) != 0 {
				moved++
			}
			if by(w[0]) != by(w[1]) {
				apart++
			}
		}
	}
	if moved < 2000 || apart < 2000 {
		t.Fatalf("too few puts were moved: %d, %d", moved, apart)
	}
}

// R3, R4

func TestPlansAreTheirOwners(t *testing.T) {
	d := draws(188)
	for range 300 {
		l := written(d.linked(0)...)
		f := opened(t, l)
		p, err := load.Make(f, "a", libLow, libHigh)
		if err != api.OK {
			continue
		}
		clear(p.Modules)
		clear(p.Regions)
		clear(p.Zeros)
		clear(p.Puts)
		want, _, _ := made(l, "a", libLow, libHigh)
		q, _ := load.Make(f, "a", libLow, libHigh)
		r, _ := load.Make(f, "a", libLow, libHigh)
		if !equal(q, want) || !equal(r, want) {
			t.Fatalf("%v, %v, want %v", q, r, want)
		}
	}
}

// TestReadme asks what README.md tells of this layer.
func TestReadme(t *testing.T) {
	x := api.Image{Kind: exec, Entry: 100, Segments: []api.Segment{segment(5, 36, 100, 84, 100)}}
	l := []api.File{{Name: "run", Data: elf.Header(x)}}
	views(t, elf.Header(x), x, octets(strings.Repeat("\x00", 100)+elf.Header(x)[36:], 256))
	regions := []api.Region{{From: 1, To: 3, Perm: 5, Kind: kindFile}, {From: 3, To: 4, Perm: 5, Kind: kindZero, File: -1}}
	parts(t, 0, 0, x, regions)
	zeros(t, 0, x, nil)
	closes(t, l, "run", "run")
	p := plans(t, l, "run", libLow, libHigh)
	if !equal(p, api.Plan{Entry: 100, Modules: []api.Module{{Name: "run"}}, Regions: regions}) {
		t.Fatalf("%v", p)
	}
	if _, err := load.Make(&files.Files{}, "walk", libLow, libHigh); err != errNone {
		t.Fatalf("%d", err)
	}
}
