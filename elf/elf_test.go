package elf_test

import (
	"bytes"
	debug "debug/elf"
	"encoding/binary"
	"encoding/hex"
	"math"
	"math/big"
	"slices"
	"strings"
	"testing"

	"flyleaf/api"
	"flyleaf/elf"
)

// The numbers are written out: a test that asked api for them would follow it if it were wrong.
const (
	page    = 64
	top     = 262144
	load    = 1
	dyn     = 2
	exec    = 2
	lib     = 3
	most    = 16
	head    = 64
	segment = 56
	widest  = 1 << 40
)

// edges are numbers at which the rules change, and those of int at which sums and differences go wrong first.
var edges = []int{
	math.MinInt, math.MinInt + 1, -1 << 62, -1 << 40, math.MinInt32, -64, -1, 0, 1, 2, 3, 4, 5, 7, 8, 63, 64, 65, 127, 128, 129, 192, 256, 320,
	top - 64, top - 1, top, top + 1, top + 64, 1<<30 - 1, 1 << 30, 1<<30 + 1, math.MaxUint32, 1 << 32, 1<<32 + 1,
	widest - 1, widest, widest + 1, widest + 64, 1 << 62, math.MaxInt - 63, math.MaxInt - 1, math.MaxInt,
}

// code is a SegLoad of an image's first bytes, that may be executed.
func code(size int) api.Segment {
	return api.Segment{Type: load, Flags: 5, Off: 0, Addr: 0, Size: size, Mem: size, Align: page}
}

// plain is the least program: one segment, that begins where the file does.
func plain() (api.Image, int) {
	return api.Image{Kind: exec, Entry: 0, Segments: []api.Segment{code(120)}}, 120
}

// library has code, data that goes on in memory behind the file's bytes, a table within these, and a segment of another type.
func library() (api.Image, int) {
	return api.Image{Kind: lib, Entry: 0, Segments: []api.Segment{
		{Type: 1685382481, Flags: 6, Align: 16},
		code(300),
		{Type: dyn, Flags: 6, Off: 340, Addr: 404, Size: 48, Mem: 48, Align: 8},
		{Type: load, Flags: 6, Off: 330, Addr: 394, Size: 70, Mem: 200, Align: page},
	}}, 400
}

// known is library with a type that may be.
func known() (api.Image, int) {
	x, size := library()
	x.Segments[0].Type = 7
	return x, size
}

// wide has as many segments as there may be, from the first page to the last one.
func wide() (api.Image, int) {
	x := api.Image{Kind: exec, Entry: top - 1}
	for i := range most - 1 {
		x.Segments = append(x.Segments, api.Segment{Type: load, Flags: i % 8, Off: 64 * i, Addr: 128 * i, Size: 64, Mem: 128, Align: page})
	}
	x.Segments = append(x.Segments, api.Segment{Type: load, Flags: 1, Off: 7, Addr: top - 57, Size: 0, Mem: 57, Align: page})
	return x, head + most*segment
}

// ahead has a table ahead of the segment that has it, which has no bytes in the file, and begins within code of a library.
func ahead() (api.Image, int) {
	return api.Image{Kind: lib, Entry: 99, Segments: []api.Segment{
		{Type: dyn, Off: 30, Addr: 94, Size: 0, Mem: 10},
		{Type: load, Flags: 1, Off: 0, Addr: 64, Size: 0, Mem: 40, Align: page},
		{Type: 0},
		{Type: 1 << 30, Flags: 7, Off: widest, Addr: widest, Size: widest, Mem: 0, Align: widest},
	}}, head + 4*segment
}

// images are some that may be, with their files' sizes: made anew at each call.
func images() ([]api.Image, []int) {
	l, sizes := []api.Image{}, []int{}
	for _, f := range []func() (api.Image, int){plain, known, wide, ahead} {
		x, size := f()
		l, sizes = append(l, x), append(sizes, size)
	}
	return l, sizes
}

// copied is an image that shares nothing with x.
func copied(x api.Image) api.Image {
	x.Segments = append([]api.Segment(nil), x.Segments...)
	return x
}

// parts are a segment's numbers, to be changed.
func parts(s *api.Segment) []*int {
	return []*int{&s.Type, &s.Flags, &s.Off, &s.Addr, &s.Size, &s.Mem, &s.Align}
}

// alone tells, as the document says it, whether a segment may be.
func alone(s api.Segment, size int) bool {
	if s.Type < 0 || s.Type > 1<<30 || s.Flags < 0 || s.Flags > 7 {
		return false
	}
	for _, n := range []int{s.Off, s.Addr, s.Size, s.Mem, s.Align} {
		if n < 0 || n > widest {
			return false
		}
	}
	if s.Type != load && s.Type != dyn {
		return true
	}
	if s.Off+s.Size > size || s.Size > s.Mem || s.Addr+s.Mem > top {
		return false
	}
	return s.Type == dyn || s.Mem > 0 && s.Align == page && (s.Addr-s.Off)%page == 0
}

// holder tells whether a SegLoad of l has the memory of s, with the same rest in the file.
func holder(l []api.Segment, s api.Segment) bool {
	for _, x := range l {
		if x.Type == load && x.Addr <= s.Addr && s.Addr+s.Mem <= x.Addr+x.Mem && x.Off+s.Addr == s.Off+x.Addr {
			return true
		}
	}
	return false
}

// may tells, as the document says it, whether an image may be.
func may(x api.Image, size int) bool {
	n := len(x.Segments)
	if x.Kind != exec && x.Kind != lib || n == 0 || n > most || 64+56*n > size {
		return false
	}
	loads, dyns, entry := 0, 0, x.Kind == lib && x.Entry == 0
	has := map[int]int{}
	last := -1
	for _, s := range x.Segments {
		if !alone(s, size) {
			return false
		}
		switch s.Type {
		case load:
			loads++
			for p := s.Addr / page; p*page < s.Addr+s.Mem; p++ {
				if p <= last || has[p] > 0 {
					return false
				}
				has[p]++
			}
			last = (s.Addr + s.Mem - 1) / page
			entry = entry || s.Flags%2 == 1 && x.Entry >= s.Addr && x.Entry < s.Addr+s.Mem
		case dyn:
			dyns++
		}
	}
	for _, s := range x.Segments {
		if s.Type == dyn && !holder(x.Segments, s) {
			return false
		}
	}
	return loads > 0 && dyns < 2 && entry
}

// checks asks whether an image may be.
func checks(t *testing.T, x api.Image, size int, want bool) {
	t.Helper()
	err := api.ErrExec
	if want {
		err = api.OK
	}
	if got := elf.Check(x, size); got != err {
		t.Fatalf("Check(%v, %d): %d, want %d", x, size, got, err)
	}
}

// file is one of an image that may be, of which each byte behind the headers is of another kind than 0.
func file(x api.Image, size int) string {
	s := elf.Header(x)
	return s + strings.Repeat("\xee", max(0, size-len(s)))
}

// parses asks which image a file has.
func parses(t *testing.T, s string, want api.Image) {
	t.Helper()
	if got, err := elf.Parse(s); err != api.OK || got.Kind != want.Kind || got.Entry != want.Entry || !slices.Equal(got.Segments, want.Segments) {
		t.Fatalf("Parse: %v %d, want %v 0", got, err, want)
	}
}

// refuses asks that a file has no image.
func refuses(t *testing.T, s string) {
	t.Helper()
	got, err := elf.Parse(s)
	if err != api.ErrExec || got.Kind != 0 || got.Entry != 0 || len(got.Segments) != 0 {
		t.Fatalf("Parse of %x: %v %d, want nothing and ErrExec", s[:min(len(s), 400)], got, err)
	}
}

// model reads a file's image as the document says it, number by number.
func model(s string) (api.Image, bool) {
	b := []byte(s)
	if len(b) < head || string(b[:16]) != "\x7f\x45\x4c\x46\x02\x01\x01"+strings.Repeat("\x00", 9) {
		return api.Image{}, false
	}
	two := func(at int) int { return int(binary.LittleEndian.Uint16(b[at:])) }
	four := func(at int) int { return int(binary.LittleEndian.Uint32(b[at:])) }
	eight := func(at int) int { return int(binary.LittleEndian.Uint64(b[at:])) }
	if two(18) != 62 || four(20) != 1 || eight(32) != 64 || two(52) != 64 || two(54) != 56 {
		return api.Image{}, false
	}
	x := api.Image{Kind: two(16), Entry: eight(24)}
	if len(b) < head+segment*two(56) {
		return api.Image{}, false
	}
	for i := range two(56) {
		at := head + segment*i
		x.Segments = append(x.Segments, api.Segment{Type: four(at), Flags: four(at + 4), Off: eight(at + 8), Addr: eight(at + 16), Size: eight(at + 32), Mem: eight(at + 40), Align: eight(at + 48)})
	}
	return x, may(x, len(s))
}

// alike asks whether a file is parsed as the model does, and tells whether it has an image.
func alike(t *testing.T, s string) bool {
	t.Helper()
	want, ok := model(s)
	if ok {
		parses(t, s, want)
	} else {
		refuses(t, s)
	}
	return ok
}

// draws is a row of numbers that look drawn, the same each time.
type draws uint64

// upTo is the next number, from 0 to n - 1.
func (d *draws) upTo(n int) int {
	*d = *d*6364136223846793005 + 1442695040888963407
	return int(uint64(*d) >> 33 % uint64(n))
}

// image is one that often may be, and as often is off by a little.
func (d *draws) image() (api.Image, int) {
	x := api.Image{Kind: 2 + d.upTo(2)}
	size := 64 + 56*(1+d.upTo(6)) + d.upTo(300)
	at := 64 * d.upTo(4)
	for range 1 + d.upTo(5) {
		rest := d.upTo(64)
		s := api.Segment{Type: load, Flags: d.upTo(8), Off: rest + 64*d.upTo(3), Addr: at + rest, Mem: 1 + d.upTo(150), Align: 64}
		s.Size = d.upTo(s.Mem + 1)
		at = (s.Addr+s.Mem+63)/64*64 + 64*d.upTo(2)
		x.Segments = append(x.Segments, s)
		if s.Flags%2 == 1 && d.upTo(2) == 0 {
			x.Entry = s.Addr + d.upTo(s.Mem)
		}
		if d.upTo(3) == 0 {
			behind := d.upTo(s.Mem + 1)
			x.Segments = append(x.Segments, api.Segment{Type: dyn, Off: s.Off + behind, Addr: s.Addr + behind, Mem: d.upTo(s.Mem - behind + 1)})
		}
	}
	if d.upTo(2) == 0 {
		p := parts(&x.Segments[d.upTo(len(x.Segments))])
		*p[d.upTo(len(p))] += d.upTo(131) - 65
	}
	return x, size
}

func TestLimits(t *testing.T) {
	if api.Page != page || api.Top != top || api.MaxSegments != most || api.SegLoad != load || api.SegDyn != dyn || api.KindExec != exec || api.KindLib != lib || api.FlagExec != 1 || api.ErrExec != 16 {
		t.Fatal("the limits of api are other ones than the document's")
	}
}

// P8.1: Check

func TestImagesThatMayBe(t *testing.T) {
	l, sizes := images()
	for i, x := range l {
		if !may(x, sizes[i]) {
			t.Fatalf("the model refuses image %d", i)
		}
		checks(t, x, sizes[i], true)
		checks(t, x, math.MaxInt, true)
	}
}

func TestNoImages(t *testing.T) {
	checks(t, api.Image{}, 0, false)
	checks(t, api.Image{}, math.MaxInt, false)
	checks(t, api.Image{Kind: exec}, 1000, false)
	checks(t, api.Image{Kind: lib}, 1000, false)
	checks(t, api.Image{Kind: lib, Segments: []api.Segment{}}, 1000, false)
	// The type that another system has of a stack is above 2^30.
	x, size := library()
	checks(t, x, size, false)
}

func TestKinds(t *testing.T) {
	x, size := plain()
	for _, kind := range append([]int{-3, -2, 6, 9, 1<<16 + 2, 1<<16 + 3, 1<<32 + 2}, edges...) {
		x.Kind = kind
		checks(t, x, size, kind == 2 || kind == 3)
	}
}

func TestSizes(t *testing.T) {
	l, sizes := images()
	for i, x := range l {
		for size := -2; size <= sizes[i]+130; size++ {
			checks(t, x, size, may(x, size))
		}
		for _, size := range edges {
			checks(t, x, size, may(x, size))
		}
	}
}

func TestHeadersWithinTheFile(t *testing.T) {
	for n := 1; n <= most+1; n++ {
		// Nothing is said of where the headers are in memory: the program's own bytes may be any of the file.
		x := api.Image{Kind: lib, Segments: []api.Segment{{Type: load, Mem: 1, Align: page}}}
		for len(x.Segments) < n {
			x.Segments = append(x.Segments, api.Segment{})
		}
		all := head + n*segment
		checks(t, x, all-1, false)
		checks(t, x, all, n <= most)
		checks(t, x, all+1, n <= most)
		checks(t, x, math.MaxInt, n <= most)
	}
}

func TestManySegments(t *testing.T) {
	x := api.Image{Kind: lib, Segments: make([]api.Segment, 1<<16+2)}
	x.Segments[0] = api.Segment{Type: load, Mem: 1, Align: page}
	for _, n := range []int{17, 18, 32, 256, 257, 1 << 16, 1<<16 + 1, 1<<16 + 2} {
		checks(t, api.Image{Kind: lib, Segments: x.Segments[:n]}, math.MaxInt, false)
	}
	checks(t, api.Image{Kind: lib, Segments: x.Segments[:16]}, math.MaxInt, true)
}

func TestNoLoads(t *testing.T) {
	for _, s := range []api.Segment{{}, {Type: 3}, {Type: dyn}, {Type: dyn, Off: 5, Addr: 5, Size: 5, Mem: 5, Align: 64}} {
		checks(t, api.Image{Kind: lib, Segments: []api.Segment{s}}, 1000, false)
		checks(t, api.Image{Kind: lib, Segments: []api.Segment{s, code(64)}}, 1000, s.Type != dyn || s.Addr == s.Off)
	}
}

func TestSegmentsNumbers(t *testing.T) {
	l, sizes := images()
	for i := range l {
		for j := range l[i].Segments {
			for part := range 7 {
				x := copied(l[i])
				p := parts(&x.Segments[j])[part]
				had := *p
				for _, n := range append([]int{had - 64, had - 1, had + 1, had + 64}, edges...) {
					*p = n
					checks(t, x, sizes[i], may(x, sizes[i]))
					checks(t, x, math.MaxInt, may(x, math.MaxInt))
				}
			}
		}
	}
}

func TestSegmentsPairsOfNumbers(t *testing.T) {
	l, sizes := images()
	for i := range 2 {
		j := len(l[i].Segments) - 1
		for one := range 7 {
			for other := range one {
				x := copied(l[i])
				p := parts(&x.Segments[j])
				for _, n := range edges {
					for _, m := range edges {
						*p[one], *p[other] = n, m
						checks(t, x, sizes[i], may(x, sizes[i]))
					}
				}
			}
		}
	}
}

func TestLoadsExamples(t *testing.T) {
	with := func(change func(s *api.Segment)) api.Image {
		s := api.Segment{Type: load, Flags: 1, Off: 64, Addr: 128, Size: 64, Mem: 64, Align: page}
		change(&s)
		return api.Image{Kind: lib, Segments: []api.Segment{s}}
	}
	for _, c := range []struct {
		what   string
		change func(s *api.Segment)
		want   bool
	}{
		{"itself", func(s *api.Segment) {}, true},
		{"no memory", func(s *api.Segment) { s.Size, s.Mem = 0, 0 }, false},
		{"no bytes of the file", func(s *api.Segment) { s.Size = 0 }, true},
		{"no bytes of the file, behind it", func(s *api.Segment) { s.Size, s.Off = 0, 192 }, false},
		{"no bytes of the file, at its end", func(s *api.Segment) { s.Size, s.Off = 0, 128 }, true},
		{"one byte of memory", func(s *api.Segment) { s.Size, s.Mem = 0, 1 }, true},
		{"more of the file than of memory", func(s *api.Segment) { s.Size = 65 }, false},
		{"up to the file's end", func(s *api.Segment) { s.Off, s.Addr, s.Mem = 65, 129, 63; s.Size = 63 }, true},
		{"over the file's end", func(s *api.Segment) { s.Off, s.Addr = 65, 129 }, false},
		{"up to the top", func(s *api.Segment) { s.Addr = top - 64 }, true},
		{"over the top", func(s *api.Segment) { s.Addr, s.Mem = top-64, 65 }, false},
		{"at the top", func(s *api.Segment) { s.Addr, s.Size, s.Mem = top, 0, 1 }, false},
		{"all memory", func(s *api.Segment) { s.Addr, s.Mem = 0, top }, true},
		{"more than all memory", func(s *api.Segment) { s.Addr, s.Mem = 0, top+1 }, false},
		{"another rest", func(s *api.Segment) { s.Off, s.Size = 63, 10 }, false},
		{"the same rest", func(s *api.Segment) { s.Off, s.Addr, s.Size = 63, 127, 10 }, true},
		{"aligned to nothing", func(s *api.Segment) { s.Align = 0 }, false},
		{"aligned to half a page", func(s *api.Segment) { s.Align = 32 }, false},
		{"aligned to two pages", func(s *api.Segment) { s.Align = 128 }, false},
		{"no flags", func(s *api.Segment) { s.Flags = 0 }, true},
		{"all flags", func(s *api.Segment) { s.Flags = 7 }, true},
		{"too many flags", func(s *api.Segment) { s.Flags = 8 }, false},
	} {
		if got := elf.Check(with(c.change), 128); (got == api.OK) != c.want || got != api.OK && got != api.ErrExec {
			t.Errorf("%s: %d, want so: %v", c.what, got, c.want)
		}
	}
}

func TestOtherTypes(t *testing.T) {
	for _, kind := range []int{0, 3, 4, 5, 6, 7, 1 << 20, 1<<30 - 1, 1 << 30} {
		s := api.Segment{Type: kind, Flags: 3, Off: widest, Addr: widest - 1, Size: widest, Mem: 5, Align: 9}
		x := api.Image{Kind: lib, Segments: []api.Segment{s, code(64), s, s}}
		checks(t, x, 400, true)
		for part := range 7 {
			for _, n := range []int{-1, math.MinInt, widest + 1, math.MaxInt} {
				y := copied(x)
				*parts(&y.Segments[2])[part] = n
				checks(t, y, 400, false)
			}
		}
	}
}

func TestLoadsRise(t *testing.T) {
	at := func(addr, mem int) api.Segment {
		return api.Segment{Type: load, Off: addr % page, Addr: addr, Mem: mem, Align: page}
	}
	other := api.Segment{Type: 4, Addr: 5000, Mem: 10}
	for _, c := range []struct {
		want bool
		l    []api.Segment
	}{
		{true, []api.Segment{at(0, 64), at(64, 64)}},
		{true, []api.Segment{at(0, 1), at(64, 1)}},
		{true, []api.Segment{at(0, 63), at(127, 1), at(128, 1)}},
		{true, []api.Segment{at(0, 64), other, at(64, 64), other, at(128, 64)}},
		{true, []api.Segment{at(640, 64), at(6400, 64)}},
		{false, []api.Segment{at(0, 65), at(65, 64)}},
		{false, []api.Segment{at(0, 65), at(127, 1)}},
		{true, []api.Segment{at(0, 65), at(128, 1)}},
		{false, []api.Segment{at(0, 10), at(10, 10)}},
		{false, []api.Segment{at(0, 10), at(63, 1)}},
		{false, []api.Segment{at(0, 64), at(0, 64)}},
		{false, []api.Segment{at(64, 64), at(0, 64)}},
		{false, []api.Segment{at(64, 64), other, at(0, 64)}},
		{false, []api.Segment{at(0, 64), at(128, 64), at(64, 64)}},
		{false, []api.Segment{at(0, 64), at(64, 65), other, at(129, 1)}},
		{false, []api.Segment{at(0, 640), at(64, 64)}},
		{false, []api.Segment{at(64, 64), at(0, 640)}},
	} {
		checks(t, api.Image{Kind: lib, Segments: c.l}, 1000, c.want)
	}
}

// TestLoadsAtAllPlaces puts two segments at all places of three pages.
func TestLoadsAtAllPlaces(t *testing.T) {
	for a := range 130 {
		for b := range 194 {
			for _, mem := range []int{1, 2, 63, 64, 65} {
				x := api.Image{Kind: lib, Segments: []api.Segment{
					{Type: load, Off: a % page, Addr: a, Mem: mem, Align: page},
					{Type: load, Off: b % page, Addr: b, Mem: 1, Align: page},
				}}
				checks(t, x, 200, b/page > (a+mem-1)/page)
			}
		}
	}
}

func TestDyns(t *testing.T) {
	first := api.Segment{Type: load, Flags: 4, Off: 0, Addr: 64, Size: 50, Mem: 64, Align: page}
	second := api.Segment{Type: load, Flags: 6, Off: 128, Addr: 128, Size: 10, Mem: 100, Align: page}
	at := func(off, addr, size, mem int) api.Segment {
		return api.Segment{Type: dyn, Off: off, Addr: addr, Size: size, Mem: mem}
	}
	for _, c := range []struct {
		want bool
		s    api.Segment
	}{
		{true, at(0, 64, 64, 64)},
		{true, at(0, 64, 0, 0)},
		{true, at(1, 65, 63, 63)},
		{false, at(1, 65, 63, 64)},
		{false, at(0, 64, 10, 65)},
		{false, at(0, 64, 11, 10)},
		{true, at(63, 127, 1, 1)},
		{false, at(63, 127, 1, 2)},
		{false, at(0, 65, 1, 1)},
		{false, at(2, 65, 1, 1)},
		{false, at(0, 63, 1, 1)},
		{false, at(64, 64, 1, 1)},
		{true, at(128, 128, 100, 100)},
		{true, at(227, 227, 1, 1)},
		{true, at(228, 228, 0, 0)},
		{false, at(228, 228, 0, 1)},
		{false, at(229, 229, 0, 0)},
		{false, at(164, 228, 0, 0)},
		// At 128 the one ends, and the other one begins: each has its own rest there.
		{true, at(64, 128, 0, 0)},
		{true, at(128, 128, 0, 0)},
		{false, at(64, 128, 0, 1)},
		{false, at(65, 128, 0, 0)},
		{false, at(100, 100, 1, 1)},
		{false, at(36, 300, 1, 1)},
		{false, at(0, 0, 0, 0)},
		{false, at(0, top, 0, 0)},
		{false, at(1001, 1001, 0, 0)},
	} {
		for _, l := range [][]api.Segment{{first, second, c.s}, {c.s, first, second}, {first, c.s, second}} {
			checks(t, api.Image{Kind: lib, Segments: l}, 1000, c.want)
		}
		checks(t, api.Image{Kind: lib, Segments: []api.Segment{c.s, first, second, c.s}}, 1000, false)
	}
	for _, align := range []int{0, 1, 8, 63, 64, 65, widest} {
		s := at(0, 64, 1, 1)
		s.Align = align
		checks(t, api.Image{Kind: lib, Segments: []api.Segment{first, s}}, 1000, true)
	}
}

// TestDynBeyondTheFile has memory within a SegLoad's, but bytes that the file has not.
func TestDynBeyondTheFile(t *testing.T) {
	x := api.Image{Kind: lib, Segments: []api.Segment{
		{Type: load, Off: 128, Addr: 0, Size: 128, Mem: 256, Align: page},
		{Type: dyn, Off: 216, Addr: 88, Size: 40, Mem: 60},
	}}
	checks(t, x, 256, true)
	x.Segments[1].Size = 41
	checks(t, x, 256, false)
	checks(t, x, 257, true)
}

func TestEntries(t *testing.T) {
	l := []api.Segment{
		{Type: load, Flags: 5, Off: 10, Addr: 74, Size: 10, Mem: 100, Align: page},
		{Type: load, Flags: 6, Addr: 256, Mem: 64, Align: page},
		{Type: load, Flags: 7, Addr: 320, Mem: 64, Align: page},
		{Type: 3, Flags: 7, Addr: 448, Mem: 64},
	}
	runs := func(entry int) bool {
		return entry >= 74 && entry < 174 || entry >= 320 && entry < 384
	}
	check := func(entry int) {
		t.Helper()
		checks(t, api.Image{Kind: exec, Entry: entry, Segments: l}, 400, runs(entry))
		checks(t, api.Image{Kind: lib, Entry: entry, Segments: l}, 400, entry == 0 || runs(entry))
	}
	for entry := -600; entry <= 600; entry++ {
		check(entry)
	}
	for _, n := range edges {
		check(n)
	}
	for bit := range 64 {
		check(1<<bit + 80)
	}
}

func TestEntryAtAddressZero(t *testing.T) {
	for flags := range 8 {
		x := api.Image{Kind: exec, Segments: []api.Segment{{Type: load, Flags: flags, Mem: 1, Align: page}}}
		checks(t, x, 200, flags%2 == 1)
		x.Kind = lib
		checks(t, x, 200, true)
		x.Entry = 1
		checks(t, x, 200, false)
		x.Segments[0].Mem = 2
		checks(t, x, 200, flags%2 == 1)
	}
}

func TestCheckOfDrawnImages(t *testing.T) {
	d := draws(8)
	count := map[bool]int{}
	for range 100000 {
		x, size := d.image()
		want := may(x, size)
		count[want]++
		checks(t, x, size, want)
	}
	if count[true] < 5000 || count[false] < 5000 {
		t.Fatalf("too few of one kind were drawn: %v", count)
	}
}

// P8.1: Header

// plainHead is what a file begins with whose image is plain, byte by byte.
const plainHead = "7f454c46020101000000000000000000" +
	"02003e0001000000" + "0000000000000000" + "4000000000000000" + "0000000000000000" +
	"00000000" + "4000" + "3800" + "0100" + "0000" + "0000" + "0000" +
	"0100000005000000" + "0000000000000000" + "0000000000000000" + "0000000000000000" +
	"7800000000000000" + "7800000000000000" + "4000000000000000"

func TestHeaderExamples(t *testing.T) {
	x, _ := plain()
	heads(t, x, plainHead)
	x = api.Image{Kind: 0x0102, Entry: 0x0102030405060708, Segments: []api.Segment{
		{Type: 0x01020304, Flags: 0x05060708, Off: 0x1112131415161718, Addr: 0x2122232425262728, Size: 0x3132333435363738, Mem: 0x4142434445464748, Align: 0x5152535455565758},
		{},
	}}
	heads(t, x, "7f454c46020101000000000000000000"+
		"02013e0001000000"+"0807060504030201"+"4000000000000000"+"0000000000000000"+
		"00000000"+"4000"+"3800"+"0200"+"000000000000"+
		"0403020108070605"+"1817161514131211"+"2827262524232221"+"2827262524232221"+
		"3837363534333231"+"4847464544434241"+"5857565554535251"+strings.Repeat("00", 56))
}

// heads asks which headers an image has, in hexadecimal digits.
func heads(t *testing.T, x api.Image, want string) {
	t.Helper()
	if got := hex.EncodeToString([]byte(elf.Header(x))); got != want {
		t.Fatalf("Header(%v):\n%s, want\n%s", x, got, want)
	}
}

// noHead are the headers of an image all of whose numbers are 0, of n segments, as far as two bytes go.
func noHead(n int) string {
	return "7f454c46020101000000000000000000" + "00003e0001000000" + "0000000000000000" + "4000000000000000" + "0000000000000000" +
		"00000000" + "4000" + "3800" + hex.EncodeToString([]byte{byte(n), byte(n >> 8)}) + "000000000000" + strings.Repeat("00", 56*n)
}

func TestHeaderOfNothing(t *testing.T) {
	heads(t, api.Image{}, noHead(0))
	heads(t, api.Image{Segments: []api.Segment{}}, noHead(0))
	heads(t, api.Image{Segments: make([]api.Segment, 3)}, noHead(3))
}

func TestHeaderOfNumbersBelowZero(t *testing.T) {
	for _, n := range edges {
		if n < 0 {
			s := api.Segment{Type: n, Flags: n, Off: n, Addr: n, Size: n, Mem: n, Align: n}
			heads(t, api.Image{Kind: n, Entry: n, Segments: []api.Segment{s, s}}, noHead(2))
		}
	}
}

func TestHeaderOfGreatNumbers(t *testing.T) {
	n := math.MaxInt
	s := api.Segment{Type: n, Flags: 1<<32 + 1, Off: n, Addr: n - 1, Size: n, Mem: n, Align: n}
	heads(t, api.Image{Kind: 1<<16 + 3, Entry: n, Segments: []api.Segment{s}}, "7f454c46020101000000000000000000"+
		"03003e0001000000"+"ffffffffffffff7f"+"4000000000000000"+"0000000000000000"+
		"00000000"+"4000"+"3800"+"0100"+"000000000000"+
		"ffffffff01000000"+"ffffffffffffff7f"+"feffffffffffff7f"+"feffffffffffff7f"+
		"ffffffffffffff7f"+"ffffffffffffff7f"+"ffffffffffffff7f")
}

func TestHeaderOfManySegments(t *testing.T) {
	for _, n := range []int{15, 16, 17, 255, 256, 300, 1<<16 - 1, 1 << 16, 1<<16 + 1} {
		heads(t, api.Image{Segments: make([]api.Segment, n)}, noHead(n))
	}
}

// TestHeaderIsELF asks the library's own reader of such files.
func TestHeaderIsELF(t *testing.T) {
	l, sizes := images()
	for i, x := range l {
		f, err := debug.NewFile(bytes.NewReader([]byte(file(x, sizes[i]))))
		if err != nil {
			t.Fatal(err)
		}
		if int(f.Type) != x.Kind || int(f.Entry) != x.Entry || f.Machine != debug.EM_X86_64 || f.Class != debug.ELFCLASS64 || f.ByteOrder != binary.LittleEndian || len(f.Progs) != len(x.Segments) {
			t.Errorf("image %d is read as %v", i, f.FileHeader)
		}
		for j, p := range f.Progs {
			s := api.Segment{Type: int(p.Type), Flags: int(p.Flags), Off: int(p.Off), Addr: int(p.Vaddr), Size: int(p.Filesz), Mem: int(p.Memsz), Align: int(p.Align)}
			if s != x.Segments[j] || p.Paddr != p.Vaddr {
				t.Errorf("segment %d of image %d is read as %v", j, i, p.ProgHeader)
			}
		}
	}
}

// P8.1: Parse

func TestParseExamples(t *testing.T) {
	refuses(t, strings.Repeat("\x00", 100))
	refuses(t, strings.Repeat("\xff", 1000))
	refuses(t, "")
	refuses(t, "\x7fELF")
	s, _ := hex.DecodeString(plainHead)
	x, _ := plain()
	parses(t, string(s), x)
}

func TestParseOfImages(t *testing.T) {
	l, sizes := images()
	for i, x := range l {
		parses(t, file(x, sizes[i]), x)
		parses(t, file(x, sizes[i]+1000), x)
	}
}

func TestParseOfAFilesBeginning(t *testing.T) {
	l, sizes := images()
	for i, x := range l {
		s := file(x, sizes[i]+70)
		for n := range len(s) {
			if alike(t, s[:n]) && n < head+segment*len(x.Segments) {
				t.Fatalf("image %d is told of %d bytes", i, n)
			}
		}
		for n := range 130 {
			refuses(t, s[n+1:])
			refuses(t, strings.Repeat("\x00", n+1)+s)
		}
	}
}

// TestParseOfEachByte sets each byte of headers to each other one.
func TestParseOfEachByte(t *testing.T) {
	l, sizes := images()
	for i, x := range l {
		s := []byte(file(x, sizes[i]))
		for at := range head + segment*len(x.Segments) {
			had := s[at]
			for b := range 256 {
				s[at] = byte(b)
				ok := alike(t, string(s))
				if !ok && (b == int(had) || free(at)) {
					t.Fatalf("image %d with %x at %d is refused", i, b, at)
				}
			}
			s[at] = had
		}
	}
}

// free tells whether any byte may stand there.
func free(at int) bool {
	if at < head {
		return at >= 40 && at < 52 || at >= 58
	}
	at = (at - head) % segment
	return at >= 24 && at < 32
}

// TestParseOfFreeBytes has other bytes wherever they may be any, all at once.
func TestParseOfFreeBytes(t *testing.T) {
	l, sizes := images()
	for i, x := range l {
		for _, b := range []byte{0, 1, 0x80, 0xff} {
			s := []byte(file(x, sizes[i]))
			for at := range head + segment*len(x.Segments) {
				if free(at) {
					s[at] = b
				}
			}
			parses(t, string(s), x)
		}
	}
}

// TestParseOfFixedBytes sets bits that must not be there, each by itself.
func TestParseOfFixedBytes(t *testing.T) {
	x, size := known()
	s := []byte(file(x, size))
	for at := range head {
		if free(at) || at >= 16 && at < 18 || at >= 24 && at < 32 || at >= 56 {
			continue
		}
		for bit := range 8 {
			s[at] ^= 1 << bit
			refuses(t, string(s))
			s[at] ^= 1 << bit
		}
	}
	parses(t, string(s), x)
}

// TestParseOfGreatNumbers has numbers whose lowest bytes may be.
func TestParseOfGreatNumbers(t *testing.T) {
	l, sizes := images()
	for i, x := range l {
		s := []byte(file(x, sizes[i]))
		places := []int{24}
		for j := range x.Segments {
			for _, at := range []int{8, 16, 32, 40, 48} {
				places = append(places, head+segment*j+at)
			}
		}
		for _, at := range places {
			had := binary.LittleEndian.Uint64(s[at:])
			for bit := range 64 {
				binary.LittleEndian.PutUint64(s[at:], had|1<<bit)
				if alike(t, string(s)) && bit > 40 {
					t.Fatalf("image %d with the bit %d at %d is told", i, bit, at)
				}
			}
			binary.LittleEndian.PutUint64(s[at:], had)
		}
	}
}

// TestParseOfManySegments has headers of more segments than there may be, all within the file.
func TestParseOfManySegments(t *testing.T) {
	for _, n := range []int{0, 1, 15, 16, 17, 18, 255, 256, 257, 1<<16 - 1} {
		x := api.Image{Kind: lib, Segments: make([]api.Segment, n)}
		if n > 0 {
			x.Segments[0] = api.Segment{Type: load, Mem: 1, Align: page}
		}
		if alike(t, elf.Header(x)) != (n >= 1 && n <= 16) {
			t.Fatalf("%d segments", n)
		}
		s := []byte(elf.Header(x))
		s[56], s[57] = 0xff, 0xff
		alike(t, string(s))
	}
}

func TestParseOfDrawnFiles(t *testing.T) {
	d := draws(81)
	count := map[bool]int{}
	for range 50000 {
		x, size := d.image()
		s := []byte(file(x, size))
		for range d.upTo(3) {
			s[d.upTo(min(len(s), 300))] = byte(d.upTo(256))
		}
		count[alike(t, string(s))]++
	}
	if count[true] < 2000 || count[false] < 2000 {
		t.Fatalf("too few of one kind were drawn: %v", count)
	}
}

// P8.1: Same

func TestSame(t *testing.T) {
	l, _ := images()
	l = append(l, api.Image{}, api.Image{Kind: 1}, api.Image{Segments: []api.Segment{{}}}, api.Image{Segments: []api.Segment{{}, {}}}, api.Image{Kind: math.MinInt, Entry: math.MaxInt})
	for i, a := range l {
		for j, b := range l {
			same(t, a, copied(b), i == j)
		}
	}
	same(t, api.Image{}, api.Image{Segments: []api.Segment{}}, true)
}

// same asks whether two images are the same, both ways.
func same(t *testing.T, a, b api.Image, want bool) {
	t.Helper()
	if elf.Same(a, b) != want || elf.Same(b, a) != want {
		t.Fatalf("Same(%v, %v): not %v", a, b, want)
	}
}

func TestSameOfAllParts(t *testing.T) {
	x, _ := known()
	for _, by := range []int{1, -1, 1 << 32, math.MinInt} {
		y := copied(x)
		y.Kind += by
		same(t, x, y, false)
		y = copied(x)
		y.Entry += by
		same(t, x, y, false)
		for i := range x.Segments {
			for part := range 7 {
				y = copied(x)
				*parts(&y.Segments[i])[part] += by
				same(t, x, y, false)
			}
		}
	}
	for i := range x.Segments {
		y := copied(x)
		y.Segments = y.Segments[:i]
		same(t, x, y, false)
		y = copied(x)
		y.Segments = slices.Delete(y.Segments, i, i+1)
		same(t, x, y, false)
		y = copied(x)
		y.Segments[0], y.Segments[i] = y.Segments[i], y.Segments[0]
		same(t, x, y, i == 0)
	}
}

// P8.2

// has asks a segment's pages.
func has(t *testing.T, addr, mem, from, to int) {
	t.Helper()
	for _, kind := range []int{0, load, dyn, 9} {
		s := api.Segment{Type: kind, Addr: addr, Mem: mem}
		if f, n := elf.Pages(s); f != from || n != to {
			t.Fatalf("Pages(%v): %d, %d, want %d, %d", s, f, n, from, to)
		}
	}
	s := api.Segment{Type: load, Flags: 3, Off: 999, Addr: addr, Size: 77, Mem: mem, Align: 5}
	if f, n := elf.Pages(s); f != from || n != to {
		t.Fatalf("Pages(%v): %d, %d, want %d, %d", s, f, n, from, to)
	}
}

func TestPagesExamples(t *testing.T) {
	has(t, 100, 100, 1, 4)
	has(t, 0, 1, 0, 1)
	has(t, 0, 64, 0, 1)
	has(t, 0, 65, 0, 2)
	has(t, 63, 1, 0, 1)
	has(t, 63, 2, 0, 2)
	has(t, 64, 64, 1, 2)
	has(t, 127, 2, 1, 3)
	has(t, 0, 0, 0, 0)
	has(t, 64, 0, 1, 1)
	has(t, 65, 0, 1, 2)
	has(t, 0, top, 0, 4096)
	has(t, top-1, 1, 4095, 4096)
	has(t, top, 0, 4096, 4096)
	has(t, widest, widest, 1<<34, 1<<35)
}

// TestPagesOfAllPlaces counts bytes one by one.
func TestPagesOfAllPlaces(t *testing.T) {
	for addr := range 200 {
		to := addr / page
		for mem := 1; mem < 200; mem++ {
			to = (addr+mem-1)/page + 1
			has(t, addr, mem, addr/page, to)
		}
	}
}

// TestPagesOfGreatNumbers asks numbers whose sum is above the greatest int.
func TestPagesOfGreatNumbers(t *testing.T) {
	for _, addr := range edges {
		for _, mem := range edges {
			if addr < 0 || mem < 0 {
				elf.Pages(api.Segment{Type: load, Addr: addr, Mem: mem})
				continue
			}
			sum := new(big.Int).Add(big.NewInt(int64(addr)), big.NewInt(int64(mem)))
			sum.Add(sum, big.NewInt(63)).Quo(sum, big.NewInt(64))
			has(t, addr, mem, addr/page, int(sum.Int64()))
		}
	}
}

// spans asks how many bytes an image takes.
func spans(t *testing.T, want int, l ...api.Segment) {
	t.Helper()
	for _, kind := range []int{exec, lib, 0} {
		if got := elf.Span(api.Image{Kind: kind, Entry: 700, Segments: l}); got != want {
			t.Fatalf("Span(%v): %d, want %d", l, got, want)
		}
	}
}

func TestSpan(t *testing.T) {
	at := func(kind, addr, mem int) api.Segment {
		return api.Segment{Type: kind, Addr: addr, Size: 1, Mem: mem}
	}
	spans(t, 0)
	spans(t, 0, at(0, 64, 64), at(dyn, 128, 64), at(3, 640, 10))
	spans(t, 64, at(load, 0, 1))
	spans(t, 64, at(load, 0, 64))
	spans(t, 128, at(load, 0, 65))
	spans(t, 256, at(load, 100, 100))
	spans(t, 128, at(load, 64, 1))
	spans(t, 192, at(load, 0, 64), at(load, 128, 3))
	spans(t, 192, at(load, 0, 64), at(load, 128, 3), at(dyn, 640, 64), at(7, 6400, 64))
	spans(t, 192, at(9, 640, 64), at(load, 0, 64), at(dyn, 1280, 64), at(load, 128, 3))
	spans(t, top, at(load, 0, 1), at(load, top-1, 1))
	spans(t, top, at(load, 0, top))
	l, _ := images()
	for i, want := range []int{128, 640, top, 128} {
		spans(t, want, l[i].Segments...)
	}
}

// P8.3

func TestWhatWasWrittenIsParsed(t *testing.T) {
	d := draws(83)
	for n := 0; n < 5000; {
		x, size := d.image()
		if elf.Check(x, size) != api.OK {
			continue
		}
		n++
		s := file(x, size)
		parses(t, s, x)
		got, _ := elf.Parse(s)
		same(t, got, x, true)
		if elf.Header(got) != elf.Header(x) {
			t.Fatalf("Header(%v) and Header(%v) differ", got, x)
		}
	}
}

func TestWrittenAtTheEnds(t *testing.T) {
	all := widest
	x := api.Image{Kind: lib, Entry: top - 1, Segments: []api.Segment{
		{Type: 1 << 30, Flags: 7, Off: all, Addr: all, Size: all, Mem: all, Align: all},
		{Type: load, Flags: 7, Off: 0, Addr: 0, Size: 288, Mem: top, Align: page},
		{Type: dyn, Flags: 0, Off: 288, Addr: 288, Size: 0, Mem: top - 288, Align: all},
		{Type: 0, Flags: 0},
	}}
	parses(t, file(x, 288), x)
	for i := range x.Segments {
		for part := range 7 {
			y := copied(x)
			p := parts(&y.Segments[i])[part]
			*p++
			alike(t, file(y, 288))
			*p -= 2
			alike(t, file(y, 288))
		}
	}
}

// R3, P1

func TestWhatIsHandedInStays(t *testing.T) {
	x, size := known()
	was := copied(x)
	elf.Check(x, size)
	elf.Header(x)
	elf.Span(x)
	elf.Same(x, x)
	if !slices.Equal(x.Segments, was.Segments) {
		t.Fatalf("%v, which was %v", x, was)
	}
}

func TestWhatIsToldIsItsOwners(t *testing.T) {
	x, size := known()
	s := file(x, size)
	a, _ := elf.Parse(s)
	b, _ := elf.Parse(s)
	for i := range a.Segments {
		a.Segments[i] = api.Segment{}
	}
	a.Segments = append(a.Segments[:2], api.Segment{Type: 5})
	same(t, b, x, true)
	parses(t, s, x)
}

// TestAllNumbers asks that all calls end, whatever the numbers are.
func TestAllNumbers(t *testing.T) {
	for _, a := range edges {
		for _, b := range edges {
			for part := range 7 {
				s := api.Segment{Type: load, Flags: 1, Off: b, Addr: b, Size: b, Mem: b, Align: page}
				*parts(&s)[part] = a
				x := api.Image{Kind: exec, Entry: a, Segments: []api.Segment{s, {Type: dyn, Off: a, Addr: b, Size: b, Mem: a}, s}}
				checks(t, x, b, may(x, b))
				elf.Span(x)
				refuses(t, elf.Header(x))
			}
		}
	}
}
