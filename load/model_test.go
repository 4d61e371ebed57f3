package load_test

import (
	"math"
	"slices"
	"strings"
	"testing"

	"flyleaf/api"
	"flyleaf/block"
	"flyleaf/dynamic"
	"flyleaf/elf"
	"flyleaf/files"
	"flyleaf/load"
	"flyleaf/reloc"
	"flyleaf/symbol"
)

// The numbers are written out: a test that asked api for them would follow it if it were wrong.
const (
	page      = 64
	top       = 262144
	libLow    = 16384
	libHigh   = 196608
	segLoad   = 1
	segDyn    = 2
	exec      = 2
	lib       = 3
	kindFile  = 1
	kindZero  = 2
	relocWord = 1
	relocData = 6
	relocJump = 7
	relocBase = 8
	errArg    = 1
	errNone   = 12
	errExec   = 16
	errLib    = 17
	errMem    = 18
)

// edges are numbers of int at which the rules change, and at which sums go wrong first.
var edges = []int{
	math.MinInt, math.MinInt + 1, -1 << 62, -1 << 40, math.MinInt32, -65, -64, -1, 0, 1, 2, 63, 64, 65, 127, 128, 4095, 4096,
	top - 64, top - 1, top, top + 1, top + 64, 1<<31 - 65, 1<<31 - 64, 1<<31 - 1, 1 << 31, math.MaxUint32, 1 << 32, 1 << 40, 1<<40 + 1, 1 << 62, math.MaxInt - 63, math.MaxInt - 1, math.MaxInt,
}

// draws is a row of numbers that look drawn, the same each time.
type draws uint64

// upTo is the next number, from 0 to n - 1.
func (d *draws) upTo(n int) int {
	*d = *d*6364136223846793005 + 1442695040888963407
	return int(uint64(*d) >> 33 % uint64(n))
}

// bytes is a text of n bytes that tell their place; none is 0.
func bytes(n int) string {
	b := make([]byte, n)
	for i := range b {
		b[i] = byte(1 + (i*5+i/page*11)%255)
	}
	return string(b)
}

// own is a symbol of a program's table.
type own struct {
	name    string
	defined bool
	value   int
}

// program is what a file of the tests says: code of four pages, at whose beginning the headers are, and data, in which words to be filled are followed by all tables.
type program struct {
	name        string
	kind, entry int
	needed      []string
	symbols     []own
	relocs      []api.Reloc
	slot, words int
	// gap is how many pages are between code and data, shift where in its page the data begins, tail how many bytes of it the file hasn't, flags what may be done with it.
	gap, shift, tail, flags int
	// tight is a program whose names begin with one that is not empty.
	tight bool
}

// library is a program of that kind, whose code begins with a symbol of each name.
func library(name string, symbols ...string) program {
	p := program{name: name, kind: lib, words: 4, flags: 6}
	for i, s := range symbols {
		p.symbols = append(p.symbols, own{s, true, 240 + i})
	}
	return p
}

// root is a program that is begun, and needs these.
func root(name string, needed ...string) program {
	return program{name: name, kind: exec, entry: 236, words: 4, flags: 6, needed: needed}
}

// at is the address of the i-th of the words to be filled.
func (p program) at(i int) int {
	return 256 + page*p.gap + p.shift + 8*i
}

// tables are the program's, laid behind its words: its data, where in it its table is, and what this says.
func (p program) tables() (string, int, api.Dynamic) {
	d := api.Dynamic{Slot: p.slot, Names: p.at(p.words)}
	names := "\x00"
	if p.tight {
		names = ""
	}
	place := func(name string) int {
		if name == "" {
			return 0
		}
		names += name + "\x00"
		return len(names) - len(name) - 1
	}
	for _, name := range p.needed {
		d.Needed = append(d.Needed, place(name))
	}
	hashed, symbols, relocs := []string{""}, symbol.Bytes(api.Symbol{}), ""
	for _, s := range p.symbols {
		hashed = append(hashed, s.name)
		symbols += symbol.Bytes(api.Symbol{Name: place(s.name), Defined: s.defined, Value: s.value})
	}
	for _, r := range p.relocs {
		relocs += reloc.Bytes(r)
	}
	hash, _ := symbol.Table(hashed)
	d.NamesSize = len(names)
	d.Hash = d.Names + len(names)
	d.Symbols = d.Hash + len(hash)
	d.Relocs, d.RelocsSize = d.Symbols+len(symbols), len(relocs)
	data := bytes(8*p.words) + names + hash + symbols + relocs
	return data + dynamic.Bytes(d), len(data), d
}

// image is the program's.
func (p program) image() api.Image {
	data, table, _ := p.tables()
	off := 256 + p.shift
	return api.Image{Kind: p.kind, Entry: p.entry, Segments: []api.Segment{
		{Type: segLoad, Flags: 5, Size: 256, Mem: 256, Align: page},
		{Type: segLoad, Flags: p.flags, Off: off, Addr: p.at(0), Size: len(data), Mem: len(data) + p.tail, Align: page},
		{Type: segDyn, Flags: p.flags, Off: off + table, Addr: p.at(0) + table, Size: len(data) - table, Mem: len(data) - table, Align: 8},
	}}
}

// file is the program's.
func (p program) file() api.File {
	data, _, _ := p.tables()
	head := elf.Header(p.image())
	return api.File{Name: p.name, Data: head + bytes(256 + p.shift)[len(head):] + data}
}

// span is how many bytes the program takes.
func (p program) span() int {
	return elf.Span(p.image())
}

// written is the files of some programs.
func written(l ...program) []api.File {
	told := []api.File{}
	for _, p := range l {
		told = append(told, p.file())
	}
	return told
}

// opened is a disk's files, with these on it.
func opened(t *testing.T, l []api.File) *files.Files {
	t.Helper()
	s, err := files.Build(l, 2)
	if err != api.OK {
		t.Fatalf("Build: %d", err)
	}
	f, err := files.Open(block.Of(s...))
	if err != api.OK {
		t.Fatalf("Open: %d", err)
	}
	return f
}

// The model: what the chapter's words say, byte by byte and page by page.

// viewed is the model of View, of an image that may be.
func viewed(file string, x api.Image) string {
	b := []byte{}
	for at := range elf.Span(x) {
		c := byte(0)
		for _, s := range x.Segments {
			if s.Type == segLoad && at >= s.Addr && at < s.Addr+s.Size {
				c = file[s.Off+at-s.Addr]
			}
		}
		b = append(b, c)
	}
	return string(b)
}

// parted is the model of Regions.
func parted(file, base int, x api.Image) []api.Region {
	told := []api.Region{}
	for _, s := range x.Segments {
		if s.Type != segLoad {
			continue
		}
		own := []api.Region{}
		for p := s.Addr / page; p*page < s.Addr+s.Mem; p++ {
			r := api.Region{From: base/page + p, To: base/page + p + 1, Perm: s.Flags, Kind: kindZero, File: -1}
			if s.Size > 0 && p*page <= s.Addr+s.Size-1 {
				r.Kind, r.File, r.Page = kindFile, file, s.Off/page
			}
			if last := len(own) - 1; last >= 0 && own[last].Kind == r.Kind {
				own[last].To++
			} else {
				own = append(own, r)
			}
		}
		told = append(told, own...)
	}
	return told
}

// zeroed is the model of Zeros.
func zeroed(base int, x api.Image) []api.Extent {
	told := []api.Extent{}
	for _, s := range x.Segments {
		n := 0
		for (s.Addr+s.Size+n)%page != 0 {
			n++
		}
		if s.Type == segLoad && s.Flags/2%2 == 1 && s.Size > 0 && n > 0 {
			told = append(told, api.Extent{At: base + s.Addr + s.Size, N: n})
		}
	}
	return told
}

// part is a module of the model.
type part struct {
	api.Module
	image  api.Image
	view   string
	table  api.Dynamic
	needed []string
}

// read is the model of Module, with the names of what the file needs.
func read(l []api.File, i int) (part, api.Errno) {
	x, err := elf.Parse(l[i].Data)
	if err != api.OK {
		return part{}, errExec
	}
	m := part{Module: api.Module{File: i, Name: l[i].Name}, image: x, view: viewed(l[i].Data, x)}
	for _, s := range x.Segments {
		if s.Type == segDyn {
			m.table, err = dynamic.Read(m.view[s.Addr : s.Addr+s.Mem])
			if err != api.OK {
				return part{}, errLib
			}
		}
	}
	m.needed, err = dynamic.Names(m.view, m.table)
	if err != api.OK {
		return m, errLib
	}
	return m, api.OK
}

// number is that of the file of a name, or -1.
func number(l []api.File, name string) int {
	return slices.IndexFunc(l, func(f api.File) bool { return f.Name == name })
}

// closed is the model of Closure.
func closed(l []api.File, name string) ([]part, api.Errno) {
	i := number(l, name)
	if i < 0 {
		return nil, errNone
	}
	m, err := read(l, i)
	if err != api.OK {
		return nil, err
	}
	told := []part{m}
	for next := 0; next < len(told); next++ {
		for _, need := range told[next].needed {
			if slices.ContainsFunc(told, func(m part) bool { return m.Name == need }) {
				continue
			}
			i := number(l, need)
			if i < 0 {
				return nil, errLib
			}
			m, err := read(l, i)
			if err != api.OK || m.image.Kind != lib {
				return nil, errLib
			}
			told = append(told, m)
		}
	}
	return told, api.OK
}

// meets tells whether a range has a byte that one of the first modules has.
func meets(l []part, at, size int) bool {
	return slices.ContainsFunc(l, func(m part) bool { return at < m.Base+elf.Span(m.image) && m.Base < at+size })
}

// placed is the model of what Make says of places.
func placed(l []part, low, high int) api.Errno {
	first := 0
	if l[0].image.Kind == exec {
		if elf.Span(l[0].image) > low {
			return errExec
		}
		first = 1
	}
	if high > top || low < 0 || low > high || low%page != 0 || high%page != 0 {
		return errArg
	}
	for i := first; i < len(l); i++ {
		size, at := elf.Span(l[i].image), l[i].table.Slot
		if at%page != 0 || at < low || at == 0 || at+size > high || meets(l[first:i], at, size) {
			at = low
			for at+size <= high && meets(l[first:i], at, size) {
				at += page
			}
		}
		if at+size > high {
			return errMem
		}
		l[i].Base = at
	}
	return api.OK
}

// sought is where in memory the symbol of a name is, and in which module.
func sought(l []part, name string) (int, int, bool) {
	for i, m := range l {
		if s, ok := symbol.Find(m.view, m.table, name); ok {
			return i, m.Base + s.Value, true
		}
	}
	return 0, 0, false
}

// filled is the model of what Make says of relocations: what is put, and of each of these the module, and the one that it is meant to be in.
func filled(l []part) ([]api.Put, [][2]int, api.Errno) {
	puts, whose := []api.Put{}, [][2]int{}
	for i, m := range l {
		relocs, err := reloc.Read(m.view, m.table)
		if err != api.OK {
			return nil, nil, errLib
		}
		for _, r := range relocs {
			within := slices.ContainsFunc(m.image.Segments, func(s api.Segment) bool {
				return s.Type == segLoad && s.Flags/2%2 == 1 && r.At >= s.Addr && r.At+8 <= s.Addr+s.Mem
			})
			target, value := i, uint64(m.Base)+uint64(r.Add)
			if r.Kind != relocBase {
				s, there := symbol.Read(m.view, m.table, r.Symbol)
				name, named := dynamic.Name(m.view, m.table, s.Name)
				to, at, found := sought(l, name)
				if !there || !named || name == "" || !found {
					return nil, nil, errLib
				}
				target, value = to, uint64(at)
				if r.Kind == relocWord {
					value += uint64(r.Add)
				}
			}
			if !within {
				return nil, nil, errLib
			}
			puts, whose = append(puts, api.Put{At: m.Base + r.At, Value: value}), append(whose, [2]int{i, target})
		}
	}
	return puts, whose, api.OK
}

// row puts regions, none of which meet, into one row, page by page.
func row(l []api.Region) []api.Region {
	there, all := [top / page]bool{}, [top / page]api.Region{}
	for _, r := range l {
		for p := r.From; p < r.To; p++ {
			there[p], all[p] = true, api.Region{From: p, To: p + 1, Perm: r.Perm, Kind: r.Kind, File: r.File, Page: r.Page}
			if r.Kind == kindFile {
				all[p].Page += p - r.From
			}
		}
	}
	told := []api.Region{}
	for p, r := range all {
		last := len(told) - 1
		switch {
		case !there[p]:
		case last >= 0 && told[last].To == p && told[last].Perm == r.Perm && told[last].Kind == r.Kind && told[last].File == r.File && (r.Kind != kindFile || told[last].Page+p-told[last].From == r.Page):
			told[last].To++
		default:
			told = append(told, r)
		}
	}
	return told
}

// made is the model of Make; told, too, is whose the puts are, and in which modules they are meant to be.
func made(l []api.File, name string, low, high int) (api.Plan, [][2]int, api.Errno) {
	parts, err := closed(l, name)
	if err != api.OK {
		return api.Plan{}, nil, err
	}
	if err := placed(parts, low, high); err != api.OK {
		return api.Plan{}, nil, err
	}
	puts, whose, err := filled(parts)
	if err != api.OK {
		return api.Plan{}, nil, err
	}
	p := api.Plan{Entry: parts[0].Base + parts[0].image.Entry, Puts: puts}
	for _, m := range parts {
		p.Modules = append(p.Modules, m.Module)
		p.Regions = append(p.Regions, parted(m.File, m.Base, m.image)...)
		p.Zeros = append(p.Zeros, zeroed(m.Base, m.image)...)
	}
	p.Regions = row(p.Regions)
	return p, whose, api.OK
}

// equal tells whether two plans are the same.
func equal(a, b api.Plan) bool {
	return a.Entry == b.Entry && slices.Equal(a.Modules, b.Modules) && slices.Equal(a.Regions, b.Regions) && slices.Equal(a.Zeros, b.Zeros) && slices.Equal(a.Puts, b.Puts)
}

// plan asks for a plan, and holds it against the model.
func plan(t *testing.T, l []api.File, name string, low, high int) (api.Plan, api.Errno) {
	t.Helper()
	want, _, fault := made(l, name, low, high)
	got, err := load.Make(opened(t, l), name, low, high)
	if err != fault || !equal(got, want) {
		t.Fatalf("Make(%q, %d, %d): %v %d, want %v %d", name, low, high, got, err, want, fault)
	}
	return got, err
}

// closure asks for a closure, and holds it against the model.
func closure(t *testing.T, l []api.File, name string) ([]int, api.Errno) {
	t.Helper()
	parts, fault := closed(l, name)
	want := []int{}
	for _, m := range parts {
		want = append(want, m.File)
	}
	got, err := load.Closure(opened(t, l), name)
	if err != fault || !slices.Equal(got, want) {
		t.Fatalf("Closure(%q): %v %d, want %v %d", name, got, err, want, fault)
	}
	return got, err
}

// short cuts a text for a test's words.
func short(s string) string {
	return strings.ToValidUTF8(s[:min(len(s), 400)], ".")
}
