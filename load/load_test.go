package load_test

import (
	"math"
	"slices"
	"strings"
	"testing"

	"flyleaf/api"
	"flyleaf/block"
	"flyleaf/dynamic"
	"flyleaf/elf"
	"flyleaf/files"
	"flyleaf/load"
)

// segment is a SegLoad.
func segment(flags, off, addr, size, mem int) api.Segment {
	return api.Segment{Type: segLoad, Flags: flags, Off: off, Addr: addr, Size: size, Mem: mem, Align: page}
}

// other is a segment that is not in memory.
func other(kind int) api.Segment {
	return api.Segment{Type: kind, Flags: 6, Off: 3, Addr: 3, Size: 5, Mem: 500}
}

// image has these segments.
func image(l ...api.Segment) api.Image {
	return api.Image{Kind: lib, Segments: l}
}

// drawn is an image whose segments rise, of a file of so many bytes.
func (d *draws) image(size int) api.Image {
	x := api.Image{Kind: lib}
	next := 0
	for range 1 + d.upTo(5) {
		if d.upTo(4) == 0 {
			x.Segments = append(x.Segments, other([]int{0, 3, 6, 1685382481}[d.upTo(4)]))
			continue
		}
		s := segment(d.upTo(8), d.upTo(size), 0, 0, 0)
		s.Addr = (next+d.upTo(3))*page + s.Off%page
		s.Size = d.upTo(min(size-s.Off, 3*page) + 1)
		if d.upTo(3) == 0 {
			s.Size -= min(s.Size, (s.Addr+s.Size)%page)
		}
		s.Mem = max(1, s.Size+d.upTo(3)*d.upTo(2*page))
		next = (s.Addr+s.Mem-1)/page + 1
		x.Segments = append(x.Segments, s)
	}
	return x
}

// P18.1: View

// views asks for a view.
func views(t *testing.T, file string, x api.Image, want string) {
	t.Helper()
	if got := load.View(file, x); got != want {
		t.Fatalf("View(%d bytes, %v): %d bytes %q, want %d bytes %q", len(file), x, len(got), short(got), len(want), short(want))
	}
}

func TestViewExamples(t *testing.T) {
	zeros := func(n int) string { return strings.Repeat("\x00", n) }
	views(t, "", api.Image{}, "")
	views(t, "hello", api.Image{}, "")
	views(t, "hello", image(other(0), other(segDyn), other(7)), "")
	views(t, "hello", image(segment(5, 0, 0, 5, 5)), "hello"+zeros(59))
	views(t, "hello", image(segment(5, 0, 0, 5, 64)), "hello"+zeros(59))
	views(t, "hello", image(segment(0, 0, 0, 5, 65)), "hello"+zeros(123))
	views(t, "hello", image(segment(4, 0, 64, 5, 5)), zeros(64)+"hello"+zeros(59))
	views(t, "hello", image(segment(4, 1, 65, 3, 9)), zeros(65)+"ell"+zeros(60))
	views(t, "hello", image(segment(4, 1, 65, 0, 9)), zeros(128))
	views(t, "hello", image(segment(6, 2, 2, 2, 2), other(segDyn), segment(6, 1, 129, 4, 70), other(1685382481)), zeros(2)+"ll"+zeros(125)+"ello"+zeros(123))
	// One part of a file may be in memory more than once.
	views(t, "hello", image(segment(5, 0, 0, 5, 5), segment(6, 0, 64, 5, 5)), "hello"+zeros(59)+"hello"+zeros(59))
	views(t, bytes(200), image(segment(5, 0, 0, 200, 200)), bytes(200)+zeros(56))
}

func TestViewOfAllPlaces(t *testing.T) {
	file := bytes(3 * page)
	for off := range page + 2 {
		for _, size := range []int{0, 1, 2, 62, 63, 64, 65, 66, 126, 127} {
			for _, more := range []int{0, 1, 63, 64, 65} {
				for _, far := range []int{0, 1, 5} {
					x := image(segment(6, off, off%page+far*page, size, max(size+more, 1)))
					views(t, file, x, viewed(file, x))
				}
			}
		}
	}
}

func TestViewOfDrawnImages(t *testing.T) {
	d := draws(181)
	for range 20000 {
		file := bytes(1 + d.upTo(300))
		x := d.image(len(file))
		views(t, file, x, viewed(file, x))
	}
}

func TestViewUpToTheTop(t *testing.T) {
	file := bytes(page)
	for _, x := range []api.Image{
		image(segment(6, 0, 0, page, top)),
		image(segment(6, 0, top-page, page, page)),
		image(segment(6, 63, top-1, 1, 1)),
		image(segment(5, 0, 0, 1, 1), segment(6, 1, page+1, 63, top-page-1)),
	} {
		if elf.Check(image(slices.Concat(x.Segments)...), 1<<20) != api.OK {
			t.Fatalf("%v may not be", x)
		}
		views(t, file, x, viewed(file, x))
	}
}

// TestViewOfImagesThatMayNotBe asks that the call ends; where parts of the file are not there, the others are still at their places.
func TestViewOfImagesThatMayNotBe(t *testing.T) {
	views(t, "hello", image(segment(5, 3, 3, 64, 64)), "\x00\x00\x00lo"+strings.Repeat("\x00", 123))
	views(t, "hello", image(segment(5, 64, 0, 64, 64)), strings.Repeat("\x00", 64))
	views(t, "hello", image(segment(5, 0, 0, 1, 1<<31)), "")
	views(t, "hello", image(segment(5, 0, 1<<40, 1, 1)), "")
	for _, a := range edges {
		for _, b := range edges {
			for n := range 16 {
				s := segment(6, 0, 0, 1, 1)
				for i, part := range []*int{&s.Off, &s.Addr, &s.Size, &s.Mem} {
					if n>>i&1 == 1 {
						*part = a
					} else if i%2 == 0 {
						*part = b
					}
				}
				// Views of more than a few pages take their time.
				if span := elf.Span(image(s)); span < 1<<20 || span > 1<<31 {
					load.View("hello", image(s, other(segDyn)))
				}
				load.Regions(a, b, image(s))
				load.Zeros(a, image(s))
			}
		}
	}
}

// P18.1: Regions

// parts asks for regions.
func parts(t *testing.T, file, base int, x api.Image, want []api.Region) {
	t.Helper()
	if got := load.Regions(file, base, x); !slices.Equal(got, want) {
		t.Fatalf("Regions(%d, %d, %v): %v, want %v", file, base, x, got, want)
	}
}

func TestRegionsExamples(t *testing.T) {
	of := func(from, to, perm, file, first int) api.Region {
		return api.Region{From: from, To: to, Perm: perm, Kind: kindFile, File: file, Page: first}
	}
	zero := func(from, to, perm int) api.Region {
		return api.Region{From: from, To: to, Perm: perm, Kind: kindZero, File: -1}
	}
	one := func(file, base int, s api.Segment, want ...api.Region) {
		t.Helper()
		parts(t, file, base, image(s), want)
	}
	parts(t, 0, 0, api.Image{}, nil)
	parts(t, 3, 64, image(other(0), other(segDyn), other(7)), nil)
	one(0, 0, segment(5, 0, 0, 1, 1), of(0, 1, 5, 0, 0))
	one(7, 0, segment(5, 0, 0, 64, 64), of(0, 1, 5, 7, 0))
	one(7, 0, segment(5, 0, 0, 64, 65), of(0, 1, 5, 7, 0), zero(1, 2, 5))
	one(7, 0, segment(6, 0, 0, 65, 128), of(0, 2, 6, 7, 0))
	one(7, 0, segment(6, 0, 0, 63, 128), of(0, 1, 6, 7, 0), zero(1, 2, 6))
	one(7, 0, segment(6, 0, 0, 0, 128), zero(0, 2, 6))
	one(7, 0, segment(6, 0, 64, 0, 1), zero(1, 2, 6))
	one(7, 0, segment(3, 10, 10, 0, 200), zero(0, 4, 3))
	one(7, 0, segment(0, 63, 63, 1, 1), of(0, 1, 0, 7, 0))
	one(7, 0, segment(7, 63, 63, 2, 2), of(0, 2, 7, 7, 0))
	one(7, 0, segment(1, 63, 63, 1, 2), of(0, 1, 1, 7, 0), zero(1, 2, 1))
	one(7, 0, segment(2, 200, 136, 100, 1000), of(2, 4, 2, 7, 3), zero(4, 18, 2))
	one(9, 640, segment(2, 200, 136, 100, 1000), of(12, 14, 2, 9, 3), zero(14, 28, 2))
	one(9, libLow, segment(4, 64, 0, 64, 64), of(256, 257, 4, 9, 1))
	// Regions of one program are told one by one, even if they go on.
	parts(t, 2, 64, image(segment(6, 0, 0, 64, 128), other(segDyn), segment(6, 64, 128, 64, 64), segment(6, 0, 192, 0, 64), segment(6, 128, 256, 64, 64)),
		[]api.Region{of(1, 2, 6, 2, 0), zero(2, 3, 6), of(3, 4, 6, 2, 1), zero(4, 5, 6), of(5, 6, 6, 2, 2)})
	parts(t, 2, 0, image(segment(5, 0, 0, 64, 64), segment(5, 64, 64, 64, 64)), []api.Region{of(0, 1, 5, 2, 0), of(1, 2, 5, 2, 1)})
}

func TestRegionsOfAllPlaces(t *testing.T) {
	for off := range page + 3 {
		for size := range 2*page + 3 {
			for _, more := range []int{0, 1, 2, 61, 62, 63, 64, 65, 127, 128, 129} {
				x := image(segment(size%8, off, off%page+size%5*page, size, max(size+more, 1)))
				base := (off + size) % 7 * page
				parts(t, off, base, x, parted(off, base, x))
			}
		}
	}
}

func TestRegionsOfDrawnImages(t *testing.T) {
	d := draws(182)
	for range 20000 {
		x := d.image(1 + d.upTo(1000))
		file, base := d.upTo(64), page*d.upTo(3000)
		parts(t, file, base, x, parted(file, base, x))
	}
}

// P18.1: Zeros

// zeros asks for the ranges that are 0.
func zeros(t *testing.T, base int, x api.Image, want []api.Extent) {
	t.Helper()
	if got := load.Zeros(base, x); !slices.Equal(got, want) {
		t.Fatalf("Zeros(%d, %v): %v, want %v", base, x, got, want)
	}
}

func TestZerosExamples(t *testing.T) {
	one := func(base int, s api.Segment, want ...api.Extent) {
		t.Helper()
		zeros(t, base, image(s), want)
	}
	zeros(t, 0, api.Image{}, nil)
	zeros(t, 0, image(other(0), other(segDyn), other(7)), nil)
	one(0, segment(6, 0, 0, 1, 1), api.Extent{At: 1, N: 63})
	one(0, segment(2, 0, 0, 63, 63), api.Extent{At: 63, N: 1})
	one(0, segment(6, 0, 0, 64, 64))
	one(0, segment(6, 0, 0, 64, 65))
	one(0, segment(6, 0, 0, 65, 65), api.Extent{At: 65, N: 63})
	one(0, segment(6, 0, 0, 65, 1000), api.Extent{At: 65, N: 63})
	one(0, segment(6, 0, 0, 0, 1000))
	one(0, segment(6, 10, 10, 0, 1000))
	one(0, segment(6, 10, 10, 54, 54))
	one(0, segment(6, 10, 10, 55, 55), api.Extent{At: 65, N: 63})
	one(640, segment(7, 10, 74, 5, 6), api.Extent{At: 719, N: 49})
	one(640, segment(3, 10, 74, 5, 6), api.Extent{At: 719, N: 49})
	one(640, segment(5, 10, 74, 5, 6))
	one(640, segment(4, 10, 74, 5, 6))
	one(640, segment(1, 10, 74, 5, 6))
	one(640, segment(0, 10, 74, 5, 6))
	zeros(t, 64, image(segment(6, 0, 0, 5, 6), other(segDyn), segment(5, 0, 64, 5, 6), segment(7, 0, 128, 64, 64), segment(2, 0, 192, 63, 64)),
		[]api.Extent{{At: 69, N: 59}, {At: 319, N: 1}})
}

func TestZerosOfAllPlaces(t *testing.T) {
	for off := range page {
		for size := range 2*page + 3 {
			for flags := range 8 {
				x := image(segment(flags, off, off+size%3*page, size, max(size+flags*20, 1)))
				zeros(t, size*page, x, zeroed(size*page, x))
			}
		}
	}
}

func TestZerosOfDrawnImages(t *testing.T) {
	d := draws(183)
	for range 20000 {
		x, base := d.image(1+d.upTo(1000)), page*d.upTo(3000)
		zeros(t, base, x, zeroed(base, x))
	}
}

// TestZerosEndWhatTheFileHas holds the three calls against each other: what memory has is the file's pages, with its zeros, and 0.
func TestZerosEndWhatTheFileHas(t *testing.T) {
	d := draws(184)
	for range 5000 {
		file := bytes(1 + d.upTo(300))
		x := d.image(len(file))
		for i := range x.Segments {
			// What may not be written has no zeros: its file's bytes go on.
			x.Segments[i].Flags |= 2
		}
		view := load.View(file, x)
		memory := make([]byte, len(view))
		for _, r := range load.Regions(0, 0, x) {
			for p := r.From; p < r.To && r.Kind == kindFile; p++ {
				at := (r.Page + p - r.From) * page
				copy(memory[p*page:], file[at:min(at+page, len(file))])
			}
		}
		for _, e := range load.Zeros(0, x) {
			clear(memory[e.At : e.At+e.N])
		}
		for _, s := range x.Segments {
			if s.Type == segLoad && string(memory[s.Addr:s.Addr+s.Mem]) != view[s.Addr:s.Addr+s.Mem] {
				t.Fatalf("%v: %q, want %q", x, short(string(memory)), short(view))
			}
		}
	}
}

// P18.1: Module

// module asks for one, and holds it against the model.
func module(t *testing.T, l []api.File, i int) api.Errno {
	t.Helper()
	want, fault := read(l, i)
	if fault != api.OK && want.view != "" {
		// Which names a program needs is not asked here.
		fault = api.OK
	}
	x, view, d, err := load.Module(opened(t, l), i)
	if err != fault || view != want.view || !elf.Same(x, want.image) || !dynamic.Same(d, want.table) {
		t.Fatalf("Module(%d): %v %q %v %d, want %v %q %v %d", i, x, short(view), d, err, want.image, short(want.view), want.table, fault)
	}
	return err
}

// rich is a program of which no table is empty.
func rich() program {
	p := library("rich", "f", "g", "h")
	p.needed = []string{"libc", "libm"}
	p.gap, p.shift, p.tail, p.slot = 2, 24, 100, 6400
	p.relocs = []api.Reloc{
		{At: p.at(0), Kind: relocWord, Symbol: 1, Add: 5},
		{At: p.at(1), Kind: relocBase, Add: 16},
		{At: p.at(2), Kind: relocJump, Symbol: 3},
	}
	return p
}

func TestModule(t *testing.T) {
	p := rich()
	_, _, d := p.tables()
	l := append(written(root("a", "b"), p), api.File{Name: "bare", Data: elf.Header(image(segment(5, 0, 0, 120, 120)))})
	f := opened(t, l)
	x, view, got, err := load.Module(f, 1)
	if err != api.OK || !elf.Same(x, p.image()) || !dynamic.Same(got, d) || len(view) != p.span() || view[:256] != l[1].Data[:256] {
		t.Fatalf("Module: %v %q %v %d", x, short(view), got, err)
	}
	x, view, got, err = load.Module(f, 2)
	if err != api.OK || len(x.Segments) != 1 || view != l[2].Data+strings.Repeat("\x00", 8) || !dynamic.Same(got, api.Dynamic{}) {
		t.Fatalf("Module without a table: %v %q %v %d", x, short(view), got, err)
	}
	for i := range l {
		module(t, l, i)
	}
}

// none asks that there is no module.
func none(t *testing.T, f *files.Files, i int, want api.Errno) {
	t.Helper()
	if x, view, d, err := load.Module(f, i); err != want || view != "" || !elf.Same(x, api.Image{}) || !dynamic.Same(d, api.Dynamic{}) {
		t.Fatalf("Module(%d): %v %q %v %d, want %d", i, x, short(view), d, err, want)
	}
}

func TestModuleOfNoFile(t *testing.T) {
	l := written(root("a"), library("b"))
	f := opened(t, l)
	for _, i := range append(edges, 3, 4, 62) {
		if i != 0 && i != 1 {
			none(t, f, i, errNone)
		}
		none(t, nil, i, errNone)
		none(t, &files.Files{}, i, errNone)
	}
	none(t, opened(t, nil), 0, errNone)
}

// TestModuleOfADiskThatIsNoMore asks it of files whose disk has been taken away behind them.
func TestModuleOfADiskThatIsNoMore(t *testing.T) {
	s, _ := files.Build(written(root("a")), 1)
	d := block.Of(s...)
	f, _ := files.Open(d)
	*d = block.Disk{}
	none(t, f, 0, errNone)
}

func TestModuleOfNoImage(t *testing.T) {
	p := rich()
	data := p.file().Data
	for _, s := range []string{"", "hello", data[:63], data[:64], data[:231], data[:len(data)-1], strings.Repeat("\x00", 500), "\x7fELF", data[1:], " " + data} {
		none(t, opened(t, []api.File{{Name: "rich", Data: s}}), 0, errExec)
	}
	for n := range data {
		l := []api.File{{Name: "rich", Data: data[:n]}}
		none(t, opened(t, l), 0, errExec)
	}
}

// tabled is a file of one segment, in which a table stands at 128, of size bytes in the file and mem in memory.
func tabled(table string, size, mem int) api.File {
	x := image(segment(6, 0, 0, 176+len(table), 1000), api.Segment{Type: segDyn, Off: 176, Addr: 176, Size: size, Mem: mem})
	return api.File{Name: "tabled", Data: elf.Header(x) + table}
}

func TestModuleOfTables(t *testing.T) {
	d := api.Dynamic{Needed: []int{3}, Names: 5, NamesSize: 7}
	table := dynamic.Bytes(d)
	ok := func(f api.File, want api.Dynamic) {
		t.Helper()
		module(t, []api.File{f}, 0)
		if _, _, got, err := load.Module(opened(t, []api.File{f}), 0); err != api.OK || !dynamic.Same(got, want) {
			t.Fatalf("%v %d, want %v", got, err, want)
		}
	}
	wrong := func(f api.File) {
		t.Helper()
		module(t, []api.File{f}, 0)
		none(t, opened(t, []api.File{f}), 0, errLib)
	}
	n := len(table)
	ok(tabled(table, n, n), d)
	// It is Mem that says how long the table is, and the view that has its bytes.
	ok(tabled(table, 0, n), d)
	ok(tabled(table, 1, n+1), d)
	ok(tabled(table, n, 1000-176), d)
	ok(tabled(table[:n-16], n-16, n), d)
	ok(tabled("", 0, 16), api.Dynamic{})
	ok(tabled(table[:16], 16, 32), api.Dynamic{Needed: []int{3}})
	wrong(tabled(table, 0, 0))
	wrong(tabled(table, n-1, n-1))
	wrong(tabled(table, 0, n-16))
	wrong(tabled("", 0, 15))
	wrong(tabled(table[16:32]+table, n, n+16))
	wrong(tabled(dynamic.Bytes(api.Dynamic{RelocsSize: 25}), 48, 48))
	wrong(tabled(dynamic.Bytes(api.Dynamic{Slot: 1<<40 + 1}), 32, 32))
	for mem := range n + 40 {
		module(t, []api.File{tabled(table, 0, mem)}, 0)
	}
}

// TestModuleWithEachByteChanged sets each byte of a program to others.
func TestModuleWithEachByteChanged(t *testing.T) {
	data := rich().file().Data
	count := map[api.Errno]int{}
	for at := range data {
		for _, c := range []byte{data[at] ^ 1, data[at] + 1, 0, 255, 128} {
			b := []byte(data)
			b[at] = c
			count[module(t, []api.File{{Name: "rich", Data: string(b)}}, 0)]++
		}
	}
	if count[api.OK] < 100 || count[errExec] < 100 || count[errLib] < 20 {
		t.Fatalf("too few of one kind: %v", count)
	}
}

// R3, R4, P1

func TestWhatIsHandedInStays(t *testing.T) {
	p := rich()
	x := p.image()
	was := slices.Clone(x.Segments)
	load.View(p.file().Data, x)
	load.Regions(0, 0, x)
	load.Zeros(0, x)
	if !slices.Equal(x.Segments, was) {
		t.Fatalf("%v, which was %v", x.Segments, was)
	}
}

func TestWhatIsToldIsItsOwners(t *testing.T) {
	p := rich()
	l := written(p)
	f := opened(t, l)
	x, _, d, _ := load.Module(f, 0)
	clear(x.Segments)
	clear(d.Needed)
	_ = append(x.Segments[:1], api.Segment{Type: 9})
	module(t, l, 0)
	y, view, e, err := load.Module(f, 0)
	want, _ := read(l, 0)
	if err != api.OK || !elf.Same(y, want.image) || view != want.view || !dynamic.Same(e, want.table) {
		t.Fatalf("%v %v %d", y, e, err)
	}
	x = p.image()
	regions, ranges := load.Regions(0, 0, x), load.Zeros(0, x)
	clear(regions)
	clear(ranges)
	parts(t, 0, 0, x, parted(0, 0, x))
	zeros(t, 0, x, zeroed(0, x))
}

// TestNothingIsWritten asks that a disk is only read.
func TestNothingIsWritten(t *testing.T) {
	s, _ := files.Build(written(root("a", "b"), library("b", "f")), 1)
	d := block.Of(s...)
	f, _ := files.Open(d)
	load.Module(f, 0)
	load.Closure(f, "a")
	load.Make(f, "a", libLow, libHigh)
	if d.Writes() != 0 {
		t.Fatalf("%d sectors were written", d.Writes())
	}
	for i := range s {
		if got, _ := d.Read(i); got != s[i] {
			t.Fatalf("sector %d has been changed", i)
		}
	}
}

func TestNamesAtTheEndsOfAll(t *testing.T) {
	for _, name := range []string{"", "\x00", "a\x00", strings.Repeat("a", 25), strings.Repeat("a", 1<<20)} {
		f := opened(t, written(root("a")))
		for _, f := range []*files.Files{f, nil, {}} {
			for _, n := range []int{0, 64, math.MaxInt, math.MinInt} {
				if p, err := load.Make(f, name, n, n); err != errNone || !equal(p, api.Plan{}) {
					t.Fatalf("Make(%q): %v %d", short(name), p, err)
				}
			}
			if l, err := load.Closure(f, name); err != errNone || len(l) > 0 {
				t.Fatalf("Closure(%q): %v %d", short(name), l, err)
			}
		}
	}
}
