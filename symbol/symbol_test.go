package symbol_test

import (
	"encoding/binary"
	"encoding/hex"
	"math"
	"slices"
	"strconv"
	"strings"
	"testing"

	"flyleaf/api"
	"flyleaf/symbol"
)

// The numbers are written out: a test that asked the program for them would follow it if it were wrong.
const (
	record  = 24
	longest = 24
	most    = 4096
	highest = 1 << 40
)

// edges are numbers at which the rules change, and those of int at which sums and products go wrong first.
var edges = []int{
	math.MinInt, math.MinInt + 1, -1 << 62, -highest, math.MinInt32, -24, -2, -1, 0, 1, 2, 3, 4, 8, 23, 24, 25, 47, 48, 255, 256, 4095, 4096, 4097, 65535, 65536,
	1<<31 - 1, 1 << 31, 1<<32 - 1, 1 << 32, 1<<32 + 5, highest - 1, highest, highest + 1, 1 << 48, 1 << 60, math.MaxInt/24 - 1, math.MaxInt / 24, math.MaxInt/24 + 1,
	math.MaxInt/12 + 1, 1 << 61, 1 << 62, math.MaxInt - 24, math.MaxInt - 8, math.MaxInt - 4, math.MaxInt - 3, math.MaxInt - 1, math.MaxInt,
}

// row is numbers of 4 bytes.
func row(l ...uint32) string {
	b := []byte{}
	for _, n := range l {
		b = binary.LittleEndian.AppendUint32(b, n)
	}
	return string(b)
}

// laid is a symbol with any bytes.
func laid(name uint32, info, other byte, section uint16, value, size uint64) string {
	b := binary.LittleEndian.AppendUint32(nil, name)
	b = append(b, info, other)
	b = binary.LittleEndian.AppendUint16(b, section)
	b = binary.LittleEndian.AppendUint64(b, value)
	return string(binary.LittleEndian.AppendUint64(b, size))
}

// draws is a row of numbers that look drawn, the same each time.
type draws uint64

// upTo is the next number, from 0 to n - 1.
func (d *draws) upTo(n int) int {
	*d = *d*6364136223846793005 + 1442695040888963407
	return int(uint64(*d) >> 33 % uint64(n))
}

// name is one of a few bytes, of which none is 0.
func (d *draws) name(most int) string {
	b := make([]byte, 1+d.upTo(most))
	for i := range b {
		b[i] = byte(1 + d.upTo(255))
	}
	return string(b)
}

// hash is a name's as the document says it, with numbers that do not wrap round.
func hash(name string) uint32 {
	h := uint64(0)
	for _, c := range []byte(name) {
		h = (16*h + uint64(c)) % (1 << 32)
		upper := h / (1 << 28)
		h = (h % (1 << 28)) ^ (upper * 16)
	}
	return uint32(h)
}

// word is a number in a view; false, if it isn't within.
func word(view string, at, width uint64) (uint64, bool) {
	if at > uint64(len(view)) || width > uint64(len(view))-at {
		return 0, false
	}
	n := uint64(0)
	for i := width; i > 0; i-- {
		n = n*256 + uint64(view[at+i-1])
	}
	return n, true
}

// told is a symbol of a view as the document says it.
func told(view string, d api.Dynamic, i int) (api.Symbol, bool) {
	// A view of the tests is short: so a greater i than its length is none, and no product wraps round.
	if i < 0 || i > len(view) || d.Symbols <= 0 || d.Symbols > len(view) {
		return api.Symbol{}, false
	}
	at := uint64(d.Symbols + record*i)
	if at+record > uint64(len(view)) {
		return api.Symbol{}, false
	}
	name, _ := word(view, at, 4)
	value, _ := word(view, at+8, 8)
	if value > highest {
		return api.Symbol{}, false
	}
	return api.Symbol{Name: int(name), Defined: view[at+6] != 0 || view[at+7] != 0, Value: int(value)}, true
}

// many is how many symbols a view's hash table has.
func many(view string, d api.Dynamic) int {
	if d.Hash <= 0 {
		return 0
	}
	n, ok := word(view, uint64(d.Hash)+4, 4)
	if !ok || n > most {
		return 0
	}
	return int(n)
}

// spelt is the name at a place, byte by byte.
func spelt(view string, d api.Dynamic, at int) (string, bool) {
	if at < 0 || d.Names < 0 || d.NamesSize < 0 || d.Names > len(view) {
		return "", false
	}
	names := view[d.Names:]
	names = names[:min(len(names), d.NamesSize)]
	if at > len(names) {
		return "", false
	}
	name, _, ended := strings.Cut(names[at:], "\x00")
	if !ended || len(name) > longest {
		return "", false
	}
	return name, true
}

// sought is the symbol of a name as the document says it.
func sought(view string, d api.Dynamic, name string) (api.Symbol, bool) {
	n := uint64(many(view, d))
	if n == 0 {
		return api.Symbol{}, false
	}
	b, _ := word(view, uint64(d.Hash), 4)
	if b == 0 {
		return api.Symbol{}, false
	}
	place := uint64(d.Hash) + 8 + 4*(uint64(hash(name))%b)
	for step := uint64(0); step < n; step++ {
		i, ok := word(view, place, 4)
		if !ok || i == 0 || i >= n {
			break
		}
		s, there := told(view, d, int(i))
		own, named := spelt(view, d, s.Name)
		if there && s.Defined && named && own == name {
			return s, true
		}
		place = uint64(d.Hash) + 8 + 4*b + 4*i
	}
	return api.Symbol{}, false
}

// reads asks for a symbol.
func reads(t *testing.T, view string, d api.Dynamic, i int) {
	t.Helper()
	want, there := told(view, d, i)
	if got, ok := symbol.Read(view, d, i); got != want || ok != there {
		t.Fatalf("Read(%x, %v, %d): %v %v, want %v %v", view[:min(len(view), 200)], d, i, got, ok, want, there)
	}
}

// counts asks how many symbols there are.
func counts(t *testing.T, view string, d api.Dynamic, want int) {
	t.Helper()
	if got := symbol.Count(view, d); got != want {
		t.Fatalf("Count(%x, %v): %d, want %d", view[:min(len(view), 200)], d, got, want)
	}
	if want != many(view, d) {
		t.Fatalf("the model counts %d", many(view, d))
	}
}

// finds asks for the symbol of a name, and tells whether there is one.
func finds(t *testing.T, view string, d api.Dynamic, name string) bool {
	t.Helper()
	want, there := sought(view, d, name)
	if got, ok := symbol.Find(view, d, name); got != want || ok != there {
		t.Fatalf("Find(%x, %v, %q): %v %v, want %v %v", view[:min(len(view), 400)], d, name, got, ok, want, there)
	}
	return there
}

// has asks that a name's symbol has that value.
func has(t *testing.T, view string, d api.Dynamic, name string, value int) {
	t.Helper()
	if got, ok := symbol.Find(view, d, name); !ok || !got.Defined || got.Value != value {
		t.Fatalf("Find(%x, %v, %q): %v %v, want the value %d", view[:min(len(view), 400)], d, name, got, ok, value)
	}
	finds(t, view, d, name)
}

// lacks asks that there is no symbol of a name.
func lacks(t *testing.T, view string, d api.Dynamic, name string) {
	t.Helper()
	if got, ok := symbol.Find(view, d, name); ok || got != (api.Symbol{}) {
		t.Fatalf("Find(%x, %v, %q): %v %v, want nothing", view[:min(len(view), 400)], d, name, got, ok)
	}
	finds(t, view, d, name)
}

// program is a view with these symbols, of which the ith has the value 1000 and i, and with a hash table.
func program(table string, names ...string) (string, api.Dynamic) {
	texts, symbols := "ahead\x00", ""
	for i, name := range names {
		symbols += laid(uint32(len(texts)), 18, 0, 1, uint64(1000+i), 0)
		texts += name + "\x00"
	}
	d := api.Dynamic{Names: 7, NamesSize: len(texts)}
	view := "view..." + texts
	d.Symbols = len(view)
	view += symbols
	d.Hash = len(view)
	return view + table, d
}

// built is a program with the hash table that Table tells.
func built(t *testing.T, names ...string) (string, api.Dynamic) {
	t.Helper()
	table, err := symbol.Table(names)
	if err != api.OK {
		t.Fatalf("Table of %d names: %d", len(names), err)
	}
	return program(table, names...)
}

func TestLimits(t *testing.T) {
	if api.MaxName != longest || api.ErrSize != 11 || api.OK != 0 {
		t.Fatal("the limits of api are other ones than the document's")
	}
}

// P10.1: Hash

func TestHashExamples(t *testing.T) {
	for _, c := range []struct {
		name string
		hash uint32
	}{
		{"printf", 0x077905a6}, {"", 0}, {"exit", 0x0006cf04}, {"syscall", 0x0b09985c}, {"a", 0x61}, {"ab", 0x672}, {"\x00", 0}, {"\x00a", 0x61}, {"a\x00", 0x610},
		{"\xff", 0xff}, {"\xff\xff", 0x10ef},
		// The sum is above 32 bits here: what is above is no more.
		{"\xff\x0f\x0f\x0f\x0f\x0f\x12", 2},
	} {
		if got := symbol.Hash(c.name); got != c.hash {
			t.Errorf("Hash(%q): %08x, want %08x", c.name, got, c.hash)
		}
	}
}

func TestHashOfShortNames(t *testing.T) {
	for a := range 256 {
		for b := range 256 {
			for _, s := range []string{string([]byte{byte(a), byte(b)}), "printf" + string([]byte{byte(a), byte(b)}), string([]byte{byte(a), byte(b)}) + "\xff\xf0\x0f\xff\x01\x80\x7f"} {
				if got, want := symbol.Hash(s), hash(s); got != want {
					t.Fatalf("Hash(%q): %08x, want %08x", s, got, want)
				}
			}
		}
	}
}

// TestHashOfAllLengths has names of all lengths, and some long ones; none has any of its upper four bits.
func TestHashOfAllLengths(t *testing.T) {
	d := draws(101)
	for n := range 300 {
		for range 30 {
			b := make([]byte, n)
			for i := range b {
				b[i] = byte(d.upTo(256))
			}
			s := string(b)
			if got, want := symbol.Hash(s), hash(s); got != want || got>>28 != 0 {
				t.Fatalf("Hash(%q): %08x, want %08x", s, got, want)
			}
		}
	}
	for _, s := range []string{strings.Repeat("\xff", 100001), strings.Repeat("name", 200000), strings.Repeat("\x00", 70000) + "z", strings.Repeat("\xf0\x0f", 70001)} {
		if got, want := symbol.Hash(s), hash(s); got != want {
			t.Fatalf("Hash of %d bytes: %08x, want %08x", len(s), got, want)
		}
	}
}

// P10.1: Bytes

func TestBytesExamples(t *testing.T) {
	for _, c := range []struct {
		s    api.Symbol
		want string
	}{
		{api.Symbol{}, "00000000" + "12" + "00" + "0000" + "0000000000000000" + "0000000000000000"},
		{api.Symbol{Name: 258, Defined: true, Value: 4096}, "02010000" + "12" + "00" + "0100" + "0010000000000000" + "0000000000000000"},
		{api.Symbol{Name: 258, Value: 4096}, "02010000" + "12" + "00" + "0000" + "0010000000000000" + "0000000000000000"},
		{api.Symbol{Name: 0x01020304, Defined: true, Value: 0x0102030405060708}, "04030201" + "12" + "00" + "0100" + "0807060504030201" + "0000000000000000"},
		{api.Symbol{Name: -1, Defined: true, Value: -1}, "00000000" + "12" + "00" + "0100" + "0000000000000000" + "0000000000000000"},
		{api.Symbol{Name: math.MaxInt, Value: math.MaxInt}, "ffffffff" + "12" + "00" + "0000" + "ffffffffffffff7f" + "0000000000000000"},
	} {
		if got := hex.EncodeToString([]byte(symbol.Bytes(c.s))); got != c.want {
			t.Errorf("Bytes(%v): %s, want %s", c.s, got, c.want)
		}
	}
}

func TestBytesAtEdges(t *testing.T) {
	for _, name := range edges {
		for _, value := range edges {
			for section, defined := range []bool{false, true} {
				s := api.Symbol{Name: name, Defined: defined, Value: value}
				n, v := uint64(0), uint64(0)
				if name > 0 {
					n = uint64(name)
				}
				if value > 0 {
					v = uint64(value)
				}
				if got, want := symbol.Bytes(s), laid(uint32(n%(1<<32)), 18, 0, uint16(section), v, 0); got != want {
					t.Fatalf("Bytes(%v): %x, want %x", s, got, want)
				}
			}
		}
	}
}

// P10.1: Read

func TestReadExamples(t *testing.T) {
	view := "x" + laid(1, 18, 0, 0, 0, 0) + laid(258, 18, 0, 1, 4096, 0) + laid(math.MaxUint32, 255, 255, 0xff00, highest, math.MaxUint64) + laid(5, 0, 0, 0, highest+1, 0) + "rest"
	d := api.Dynamic{Symbols: 1}
	for _, c := range []struct {
		i     int
		s     api.Symbol
		there bool
	}{
		{0, api.Symbol{Name: 1}, true}, {1, api.Symbol{Name: 258, Defined: true, Value: 4096}, true}, {2, api.Symbol{Name: math.MaxUint32, Defined: true, Value: highest}, true},
		{3, api.Symbol{}, false}, {4, api.Symbol{}, false}, {5, api.Symbol{}, false}, {-1, api.Symbol{}, false},
	} {
		if got, ok := symbol.Read(view, d, c.i); got != c.s || ok != c.there {
			t.Errorf("Read of %d: %v %v, want %v %v", c.i, got, ok, c.s, c.there)
		}
		reads(t, view, d, c.i)
	}
	// Symbols at 0 are none, even where bytes stand there.
	if got, ok := symbol.Read(view[1:], api.Dynamic{}, 0); ok || got != (api.Symbol{}) {
		t.Errorf("Read of symbols at 0: %v %v", got, ok)
	}
}

// TestReadAtAllPlaces has all beginnings of symbols in views of all lengths.
func TestReadAtAllPlaces(t *testing.T) {
	all := "....." + laid(7, 1, 2, 3, 8, 9) + laid(10, 11, 12, 0, 14, 15) + laid(16, 17, 18, 256, 19, 20) + "......"
	for n := range len(all) + 1 {
		view := all[:n]
		for from := -3; from <= n+3; from++ {
			for i := -2; i < 6; i++ {
				reads(t, view, api.Dynamic{Symbols: from}, i)
			}
		}
	}
}

func TestReadAtEdges(t *testing.T) {
	view := strings.Repeat(laid(7, 1, 2, 3, 8, 9), 20)
	l := append([]int{len(view) - 49, len(view) - 48, len(view) - 25, len(view) - 24, len(view) - 23, len(view) - 1, len(view), len(view) + 1}, edges...)
	for _, from := range l {
		for _, i := range l {
			reads(t, view, api.Dynamic{Symbols: from}, i)
			reads(t, "", api.Dynamic{Symbols: from}, i)
		}
	}
}

// TestReadChangedBytes has each byte of a symbol be each other one.
func TestReadChangedBytes(t *testing.T) {
	d := api.Dynamic{Symbols: 3}
	for _, s := range []string{laid(0, 0, 0, 0, 0, 0), laid(5, 18, 0, 1, 4096, 0), laid(math.MaxUint32, 255, 255, math.MaxUint16, highest, math.MaxUint64)} {
		b := []byte("..." + s)
		for at := range b {
			had := b[at]
			for c := range 256 {
				b[at] = byte(c)
				reads(t, string(b), d, 0)
			}
			b[at] = had
		}
	}
}

func TestReadDefined(t *testing.T) {
	for _, section := range []uint16{0, 1, 2, 127, 128, 255, 256, 257, 512, 0x8000, 0xff00, 0xfff1, 0xffff} {
		got, ok := symbol.Read("."+laid(3, 0, 0, section, 4, 0), api.Dynamic{Symbols: 1}, 0)
		if want := (api.Symbol{Name: 3, Defined: section != 0, Value: 4}); got != want || !ok {
			t.Fatalf("Read of section %d: %v %v, want %v", section, got, ok, want)
		}
	}
	// The bytes beside these say nothing of it.
	got, ok := symbol.Read("."+laid(3, 255, 255, 0, 255, math.MaxUint64), api.Dynamic{Symbols: 1}, 0)
	if !ok || got.Defined {
		t.Fatalf("Read of one that is not defined: %v %v", got, ok)
	}
}

func TestReadValues(t *testing.T) {
	for _, value := range []uint64{0, 1, 255, 1 << 31, 1 << 32, highest - 1, highest, highest + 1, 1 << 41, 1 << 48, 1 << 62, 1<<63 - 1, 1 << 63, 1<<63 + 5, math.MaxUint64} {
		for _, section := range []uint16{0, 1} {
			got, ok := symbol.Read("."+laid(3, 18, 0, section, value, 0), api.Dynamic{Symbols: 1}, 0)
			want := api.Symbol{}
			if value <= highest {
				want = api.Symbol{Name: 3, Defined: section != 0, Value: int(value)}
			}
			if got != want || ok != (value <= highest) {
				t.Fatalf("Read of the value %d: %v %v", value, got, ok)
			}
		}
	}
}

// TestReadAsksForNothingElse has all other parts of d be anything.
func TestReadAsksForNothingElse(t *testing.T) {
	view := "." + laid(3, 18, 0, 1, 4, 0)
	for _, n := range edges {
		d := api.Dynamic{Needed: []int{n}, Names: n, NamesSize: n, Symbols: 1, Hash: n, Relocs: n, RelocsSize: n, Own: n, Slot: n}
		if got, ok := symbol.Read(view, d, 0); !ok || got != (api.Symbol{Name: 3, Defined: true, Value: 4}) {
			t.Fatalf("Read of %v: %v %v", d, got, ok)
		}
	}
}

// P10.1: Count

func TestCountNumbers(t *testing.T) {
	for _, n := range []uint32{0, 1, 2, 255, 256, most - 1, most, most + 1, 8192, 65536, 1<<20 + 1, 1 << 31, 1<<31 + 1, math.MaxUint32} {
		want := int(n)
		if n > most {
			want = 0
		}
		for _, b := range []uint32{0, 1, most + 1, math.MaxUint32} {
			counts(t, "."+row(b, n), api.Dynamic{Hash: 1}, want)
			counts(t, "....."+row(b, n)+"behind", api.Dynamic{Hash: 5}, want)
		}
		counts(t, row(1, n, 1, 1), api.Dynamic{}, 0)
	}
}

// TestCountAtAllPlaces has all beginnings of tables in views of all lengths.
func TestCountAtAllPlaces(t *testing.T) {
	all := "\x01\x00\x02\x00\x03\x00\x00\x00\x04\x00\x00\x00\x05\x00\x06\x00\x00\x00"
	for n := range len(all) + 1 {
		for from := -6; from <= n+6; from++ {
			d := api.Dynamic{Hash: from}
			counts(t, all[:n], d, many(all[:n], d))
		}
	}
	counts(t, all, api.Dynamic{Hash: 4}, 4)
	for _, from := range edges {
		if from < 1 || from > 100 {
			counts(t, strings.Repeat("\x01\x00\x00\x00", 24), api.Dynamic{Hash: from}, 0)
		}
		counts(t, "", api.Dynamic{Hash: from}, 0)
	}
}

func TestCountAsksForNothingElse(t *testing.T) {
	for _, n := range edges {
		d := api.Dynamic{Needed: []int{n}, Names: n, NamesSize: n, Symbols: n, Hash: 1, Relocs: n, RelocsSize: n, Own: n, Slot: n}
		counts(t, "."+row(0, 77), d, 77)
	}
}

// P10.2: Table

// numbers are those of a table's bytes.
func numbers(t *testing.T, s string) []int {
	t.Helper()
	if len(s)%4 != 0 {
		t.Fatalf("a table of %d bytes", len(s))
	}
	l := []int{}
	for i := 0; i < len(s); i += 4 {
		l = append(l, int(binary.LittleEndian.Uint32([]byte(s[i:]))))
	}
	return l
}

// tabled asks for a table: each chain has the symbols whose names' hashes say so, the last one first.
func tabled(t *testing.T, names []string) {
	t.Helper()
	s, err := symbol.Table(names)
	if err != api.OK {
		t.Fatalf("Table of %d names: %d", len(names), err)
	}
	b := max(len(names), 1)
	want := make([]int, 2+b+len(names))
	want[0], want[1] = b, len(names)
	for first := range b {
		at := 2 + first
		for i := len(names) - 1; i > 0; i-- {
			if names[i] != "" && uint64(hash(names[i]))%uint64(b) == uint64(first) {
				want[at] = i
				at = 2 + b + i
			}
		}
	}
	if got := numbers(t, s); !slices.Equal(got, want) {
		t.Fatalf("Table(%q): %v, want %v", names[:min(len(names), 20)], got, want)
	}
}

func TestTableExamples(t *testing.T) {
	for _, c := range []struct {
		names []string
		want  []int
	}{
		{nil, []int{1, 0, 0}},
		{[]string{""}, []int{1, 1, 0, 0}},
		{[]string{"a"}, []int{1, 1, 0, 0}},
		{[]string{"", "a"}, []int{2, 2, 0, 1, 0, 0}},
		{[]string{"", "b"}, []int{2, 2, 1, 0, 0, 0}},
		{[]string{"", "a", "c"}, []int{3, 3, 2, 1, 0, 0, 0, 0}},
		// 61, 64 and 67 (hexadecimal) have the same rest by 3, but not by 4.
		{[]string{"", "a", "d", "g"}, []int{4, 4, 2, 1, 0, 3, 0, 0, 0, 0}},
		{[]string{"", "a", "e", "i"}, []int{4, 4, 0, 3, 0, 0, 0, 0, 1, 2}},
		{[]string{"", "a", "", "a"}, []int{4, 4, 0, 3, 0, 0, 0, 0, 0, 1}},
		{[]string{"a", "", "", ""}, []int{4, 4, 0, 0, 0, 0, 0, 0, 0, 0}},
		{[]string{"", "printf"}, []int{2, 2, 1, 0, 0, 0}},
	} {
		s, err := symbol.Table(c.names)
		if got := numbers(t, s); err != api.OK || !slices.Equal(got, c.want) {
			t.Errorf("Table(%q): %v %d, want %v", c.names, got, err, c.want)
		}
		tabled(t, c.names)
	}
	if s, _ := symbol.Table([]string{"", "a"}); hex.EncodeToString([]byte(s)) != "020000000200000000000000010000000000000000000000" {
		t.Errorf("Table of a: %x", s)
	}
}

// TestTableOfFewNames has all rows of a few names, of which some are empty, the same, or of one chain.
func TestTableOfFewNames(t *testing.T) {
	few := []string{"", "a", "b", "e", "\xff\xff", "printf"}
	for n := range 6 {
		rows := 1
		for range n {
			rows *= len(few)
		}
		for r := range rows {
			l := []string{}
			for range n {
				l = append(l, few[r%len(few)])
				r /= len(few)
			}
			tabled(t, l)
		}
	}
}

func TestTableOfDrawnNames(t *testing.T) {
	d := draws(102)
	for n := range 200 {
		l := make([]string, n)
		for i := range l {
			switch d.upTo(6) {
			case 0:
			case 1:
				l[i] = l[d.upTo(i+1)]
			case 2:
				l[i] = d.name(60)
			default:
				l[i] = d.name(10)
			}
		}
		tabled(t, l)
	}
}

func TestTableOfManyNames(t *testing.T) {
	l := make([]string, most)
	tabled(t, l)
	for i := range l {
		l[i] = "n" + strconv.Itoa(i)
	}
	tabled(t, l)
	tabled(t, l[:most-1])
	for i := range l {
		l[i] = "all"
	}
	tabled(t, l)
	for _, n := range []int{most + 1, most + 2, 2 * most, 1 << 17} {
		if s, err := symbol.Table(make([]string, n)); s != "" || err != api.ErrSize {
			t.Fatalf("Table of %d names: %d bytes, %d", n, len(s), err)
		}
	}
	if s, err := symbol.Table(append(l, "one more")); s != "" || err != api.ErrSize {
		t.Fatalf("Table of one name too many: %d bytes, %d", len(s), err)
	}
}

// P10.2: Find

func TestFindExamples(t *testing.T) {
	view, d := built(t, "", "printf", "exit", "read", "write", "open")
	for i, name := range []string{"printf", "exit", "read", "write", "open"} {
		has(t, view, d, name, 1001+i)
	}
	for _, name := range []string{"", "print", "printf2", "rintf", "Printf", "ahead", "close", "printf\x00", "printf\x00exit", strings.Repeat("p", 24), strings.Repeat("p", 25), strings.Repeat("p", 100000)} {
		lacks(t, view, d, name)
	}
	got, ok := symbol.Find(view, d, "printf")
	if want := (api.Symbol{Name: 7, Defined: true, Value: 1001}); got != want || !ok {
		t.Fatalf("Find: %v %v, want %v", got, ok, want)
	}
}

// TestFindTheFirstOfAChain has some symbols of one name: the first one of the chain is told, which is the last that was put.
func TestFindTheFirstOfAChain(t *testing.T) {
	view, d := built(t, "", "a", "b", "a", "c", "a", "b")
	has(t, view, d, "a", 1005)
	has(t, view, d, "b", 1006)
	has(t, view, d, "c", 1004)
	// Other chains, of one beginning: 2, 1, 3, 6, 4.
	view, d = program(row(1, 7, 2, 0, 3, 1, 6, 0, 0, 4), "", "a", "b", "a", "c", "a", "b")
	has(t, view, d, "a", 1001)
	has(t, view, d, "b", 1002)
	has(t, view, d, "c", 1004)
	view, d = program(row(1, 7, 5, 0, 3, 1, 6, 0, 2, 4), "", "a", "b", "a", "c", "a", "b")
	has(t, view, d, "a", 1005)
	has(t, view, d, "b", 1002)
}

// TestFindAlongAnotherChain has a name in a chain that is not that of its hash.
func TestFindAlongAnotherChain(t *testing.T) {
	// a is of the chain 1 of 2, b of the chain 0.
	view, d := program(row(2, 3, 1, 2, 0, 0, 0), "", "a", "b")
	lacks(t, view, d, "a")
	lacks(t, view, d, "b")
	view, d = program(row(2, 3, 2, 1, 0, 0, 0), "", "a", "b")
	has(t, view, d, "a", 1001)
	has(t, view, d, "b", 1002)
	view, d = program(row(2, 3, 1, 2, 0, 2, 1), "", "a", "b")
	has(t, view, d, "a", 1001)
	has(t, view, d, "b", 1002)
}

// changed is a view in which a symbol is another one.
func changed(view string, d api.Dynamic, i int, s string) string {
	at := d.Symbols + record*i
	return view[:at] + s + view[at+record:]
}

// TestFindPassesOver has symbols of the name that are not defined, or that Read does not tell, or without a name, ahead of one that is found.
func TestFindPassesOver(t *testing.T) {
	view, d := built(t, "", "a", "a")
	has(t, view, d, "a", 1002)
	place := uint32(d.NamesSize - 2)
	has(t, changed(view, d, 2, laid(place, 18, 0, 1, 7, 0)), d, "a", 7)
	has(t, changed(view, d, 2, laid(place, 0, 9, 256, highest, 9)), d, "a", highest)
	for _, s := range []string{
		laid(place, 18, 0, 0, 7, 0), laid(place, 18, 0, 1, highest+1, 0), laid(place, 18, 0, 1, 1<<63, 0), laid(place, 18, 0, 1, math.MaxUint64, 0),
		laid(place+1, 18, 0, 1, 7, 0), laid(place+2, 18, 0, 1, 7, 0), laid(place+3, 18, 0, 1, 7, 0), laid(place+1000, 18, 0, 1, 7, 0), laid(math.MaxUint32, 18, 0, 1, 7, 0), laid(0, 18, 0, 1, 7, 0),
	} {
		x := changed(view, d, 2, s)
		has(t, x, d, "a", 1001)
		lacks(t, changed(x, d, 1, s), d, "a")
	}
	// The symbols may end ahead of what the table says of: those behind are passed over.
	for n := range 3 * record {
		x := api.Dynamic{Names: d.Names, NamesSize: d.NamesSize, Hash: 1}
		table, _ := symbol.Table([]string{"", "a", "a"})
		short := "." + table
		x.Names = len(short)
		short += view[d.Names : d.Names+d.NamesSize]
		x.Symbols = len(short)
		short += view[d.Symbols : d.Symbols+n]
		if finds(t, short, x, "a") != (n >= 2*record) {
			t.Fatalf("Find, where %d bytes of symbols are left", n)
		}
	}
}

// TestFindNamesOfAllLengths has names up to the longest, and behind: longer ones are none.
func TestFindNamesOfAllLengths(t *testing.T) {
	for n := 1; n < 60; n++ {
		name := strings.Repeat("n", n)
		view, d := built(t, "", name, "other")
		if n <= longest {
			has(t, view, d, name, 1001)
		} else {
			lacks(t, view, d, name)
			lacks(t, view, d, name[:longest])
		}
		has(t, view, d, "other", 1002)
	}
	view, d := built(t, "", "a\x00b")
	lacks(t, view, d, "a\x00b")
}

// TestFindWithoutNames has programs whose names are elsewhere, or are fewer.
func TestFindWithoutNames(t *testing.T) {
	view, d := built(t, "", "aa", "aa")
	for size := -1; size < d.NamesSize+200; size++ {
		x := d
		x.NamesSize = size
		// The last one's name ends with the names, the other one's 3 bytes ahead.
		if finds(t, view, x, "aa") != (size >= d.NamesSize-3) {
			t.Fatalf("Find, where the names have %d bytes", size)
		}
	}
	for _, from := range append([]int{d.Names - 1, d.Names + 1, d.Names + 3, len(view) - 1, len(view), len(view) + 1}, edges...) {
		x := d
		x.Names = from
		finds(t, view, x, "aa")
		finds(t, view, x, "a")
	}
}

// TestFindWithoutEnd has chains that come back to themselves.
func TestFindWithoutEnd(t *testing.T) {
	for _, table := range []string{
		row(1, 4, 1, 0, 1, 2, 3), row(1, 4, 3, 0, 3, 1, 2), row(1, 4, 1, 0, 2, 3, 1), row(1, 4, 1, 0, 2, 3, 2), row(1, 4, 1, 0, 2, 3, 3), row(1, 4, 2, 0, 3, 1, 1),
	} {
		view, d := program(table, "", "a", "b", "c")
		count := 0
		for _, name := range []string{"a", "b", "c", "d", ""} {
			if finds(t, view, d, name) {
				count++
			}
		}
		if count == 0 {
			t.Fatalf("nothing is found in %x", table)
		}
		lacks(t, view, d, "d")
	}
	// All symbols are gone to, even where the chain comes back only behind the last one of them.
	l := make([]string, most)
	nexts := make([]uint32, most)
	for i := range l {
		l[i] = "n" + strconv.Itoa(i)
		nexts[i] = uint32(i + 1)
	}
	nexts[most-1] = 1
	view, d := program(row(append([]uint32{1, most, 1}, nexts...)...), l...)
	for _, i := range []int{1, 2, most - 2, most - 1} {
		has(t, view, d, l[i], 1000+i)
	}
	lacks(t, view, d, l[0])
	lacks(t, view, d, "none")
}

// TestFindEndsOfChains has chains that end with 0, or with a symbol that there isn't; a table that has fewer symbols than the program leaves the others out.
func TestFindEndsOfChains(t *testing.T) {
	names := []string{"", "a", "b", "c", "d", "e"}
	for n := range uint32(7) {
		for first := range uint32(8) {
			for next := range uint32(8) {
				nexts := []uint32{2, 2, 2, 2, 2, 2}
				if first < n {
					nexts[first] = next
				}
				if next < n && next != first {
					nexts[next] = 0
				}
				view, d := program(row(append([]uint32{1, n, first}, nexts[:min(n, 6)]...)...), names...)
				for i, name := range names {
					want := i > 0 && uint32(i) < n && (uint32(i) == first || uint32(i) == next && first > 0 && first < n)
					if finds(t, view, d, name) != want {
						t.Fatalf("Find of %q along %d, %d of %d: want %v", name, first, next, n, want)
					}
				}
			}
		}
	}
	// Symbol 0 is none, whatever it has.
	view, d := program(row(1, 2, 0, 1, 0), "zero", "one")
	lacks(t, view, d, "zero")
	lacks(t, view, d, "one")
	view, d = program(row(1, 2, 1, 1, 0), "zero", "one")
	lacks(t, view, d, "zero")
	has(t, view, d, "one", 1001)
	// Greatest numbers are no symbols.
	for _, n := range []uint32{3, most, 1 << 31, 1<<31 + 1, math.MaxUint32} {
		view, d := program(row(1, 3, n, 1, 2, 0), "", "a", "b")
		lacks(t, view, d, "a")
		view, d = program(row(1, 3, 1, 0, n, 0), "", "a", "b")
		has(t, view, d, "a", 1001)
		lacks(t, view, d, "b")
	}
}

// TestFindWrongTables has tables without chains, without symbols, with too many, and none.
func TestFindWrongTables(t *testing.T) {
	names := []string{"", "a", "b"}
	for _, table := range []string{row(0, 3, 1, 0, 2, 0), row(1, 0, 1, 0, 2, 0), row(1, most+1, 1, 0, 2, 0), row(1, math.MaxUint32, 1, 0, 2, 0), row(0, 0, 1, 0, 2, 0), row(1), row(1, 3), ""} {
		view, d := program(table, names...)
		lacks(t, view, d, "a")
		lacks(t, view, d, "b")
	}
	// 4096 symbols may be said, even where there are fewer.
	view, d := program(row(1, most, 1, 0, 2, 0), names...)
	has(t, view, d, "a", 1001)
	has(t, view, d, "b", 1002)
	for _, n := range edges {
		x := d
		x.Hash = n
		if n <= 0 || n > len(view) {
			lacks(t, view, x, "a")
		}
		finds(t, view, x, "a")
		x = d
		x.Symbols = n
		if n <= 0 || n > len(view) {
			lacks(t, view, x, "a")
		}
		finds(t, view, x, "a")
	}
	lacks(t, "", api.Dynamic{}, "")
	lacks(t, "", api.Dynamic{}, "a")
	lacks(t, view, api.Dynamic{}, "a")
}

// TestFindHashAtZero has a table at address 0, where it is none.
func TestFindHashAtZero(t *testing.T) {
	table := row(1, 2, 1, 0, 0)
	view := table + "a\x00"
	d := api.Dynamic{Names: len(table), NamesSize: 2, Symbols: len(view)}
	view += laid(0, 18, 0, 1, 1, 0) + laid(0, 18, 0, 1, 2, 0)
	lacks(t, view, d, "a")
	d.Names, d.Symbols, d.Hash = d.Names+1, d.Symbols+1, 1
	has(t, "."+view, d, "a", 2)
}

// TestFindManyChains has tables of each number of chains, some of which go on behind the view.
func TestFindManyChains(t *testing.T) {
	names := []string{"", "a", "bc", "def", "ghij", "printf", "\xff\xff\xff"}
	for b := uint32(1); b < 300; b++ {
		firsts, nexts := make([]uint32, b), make([]uint32, len(names))
		for i := 1; i < len(names); i++ {
			first := &firsts[hash(names[i])%b]
			nexts[i], *first = *first, uint32(i)
		}
		view, d := program(row(append(append([]uint32{b, uint32(len(names))}, firsts...), nexts...)...), names...)
		for i, name := range names[1:] {
			has(t, view, d, name, 1001+i)
		}
		lacks(t, view, d, "none")
	}
	// a is the first one of its chain: the next ones are not needed, but for what is not found at once.
	for _, b := range []uint32{1000, 1 << 20, 1 << 30, 1<<30 + 1, 1 << 31, math.MaxUint32} {
		firsts := make([]uint32, 110)
		firsts[hash("a")], firsts[hash("b")] = 1, 1
		view, d := program(row(append([]uint32{b, 3}, firsts...)...), "", "a", "b")
		has(t, view, d, "a", 1001)
		lacks(t, view, d, "b")
		lacks(t, view, d, "printf")
	}
}

// TestFindCutTables cuts a table at each of its bytes: only numbers that are needed must be there.
func TestFindCutTables(t *testing.T) {
	names := []string{"", "a", "e", "i", "b"}
	table := row(4, 5, 0, 3, 4, 0, 0, 0, 1, 2, 0)
	for n := range len(table) + 1 {
		view, d := program(table[:n], names...)
		for _, c := range []struct {
			name  string
			needs int
		}{{"b", 20}, {"i", 16}, {"e", 40}, {"a", 36 + 4}} {
			if finds(t, view, d, c.name) != (n >= c.needs) {
				t.Fatalf("Find of %q, where %d bytes of the table are left", c.name, n)
			}
		}
		lacks(t, view, d, "m")
	}
	// The chain goes 3, 2, 1: the next one of 2 stands ahead of that of 3.
	view, d := program(table[:len(table)-8], names...)
	has(t, view, d, "i", 1003)
	lacks(t, view, d, "e")
	lacks(t, view, d, "a")
}

// TestFindEmptyNames has symbols whose names are empty: those are names of theirs, where a chain has them.
func TestFindEmptyNames(t *testing.T) {
	view, d := built(t, "", "", "a", "")
	lacks(t, view, d, "")
	has(t, view, d, "a", 1002)
	view, d = program(row(1, 3, 1, 0, 2, 0), "", "a", "")
	has(t, view, d, "", 1002)
}

// TestFindChangedBytes has each byte of a view be each other one.
func TestFindChangedBytes(t *testing.T) {
	view, d := built(t, "", "a", "e", "printf", "i", "a")
	b := []byte(view)
	count := map[bool]int{}
	for at := range b {
		had := b[at]
		for c := range 256 {
			b[at] = byte(c)
			for _, name := range []string{"a", "e", "printf", "x"} {
				count[finds(t, string(b), d, name)]++
			}
		}
		b[at] = had
	}
	if count[true] < 10000 || count[false] < 10000 {
		t.Fatalf("too few of one kind: %v", count)
	}
}

// wild is a table whose numbers are mostly of symbols that there are.
func (d *draws) wild(symbols int) string {
	b, n := 1+d.upTo(6), symbols
	l := []uint32{uint32(b), uint32(n)}
	for range b + n {
		l = append(l, uint32(d.upTo(n+2)))
	}
	if d.upTo(6) == 0 {
		l[d.upTo(len(l))] = uint32(d.upTo(1 << 31))
	}
	if d.upTo(4) == 0 {
		l[d.upTo(2)] = uint32(d.upTo(n + 3))
	}
	s := row(l...)
	if d.upTo(4) == 0 {
		s = s[:d.upTo(len(s)+1)]
	}
	return s
}

func TestFindDrawnTables(t *testing.T) {
	g := draws(103)
	count := map[bool]int{}
	for range 20000 {
		names := make([]string, 1+g.upTo(9))
		for i := range names {
			if g.upTo(6) > 0 {
				names[i] = string(rune('a' + g.upTo(8)))
			}
		}
		view, d := program(g.wild(len(names)), names...)
		for range g.upTo(3) {
			view = changed(view, d, g.upTo(len(names)), laid(uint32(g.upTo(d.NamesSize+2)), 18, 0, uint16(g.upTo(2)), uint64(g.upTo(3))<<39, 0))
		}
		if g.upTo(10) == 0 {
			d.Symbols += record * (g.upTo(3) - 1)
		}
		counts(t, view, d, many(view, d))
		for _, name := range append([]string{"", "a", "z"}, names...) {
			count[finds(t, view, d, name)]++
		}
		reads(t, view, d, g.upTo(len(names)+4))
	}
	if count[true] < 10000 || count[false] < 10000 {
		t.Fatalf("too few of one kind were drawn: %v", count)
	}
}

// P10.3

func TestWhatWasWrittenIsRead(t *testing.T) {
	g := draws(104)
	for range 3000 {
		l := make([]api.Symbol, g.upTo(20))
		view := strings.Repeat(".", 1+g.upTo(90))
		d := api.Dynamic{Symbols: len(view)}
		for i := range l {
			l[i] = api.Symbol{Name: g.upTo(1<<31) << g.upTo(2), Defined: g.upTo(2) > 0, Value: g.upTo(1<<30) << g.upTo(11)}
			view += symbol.Bytes(l[i])
		}
		for i, want := range l {
			if got, ok := symbol.Read(view, d, i); got != want || !ok {
				t.Fatalf("%v was written, and %v %v is read", want, got, ok)
			}
		}
		if got, ok := symbol.Read(view, d, len(l)); ok || got != (api.Symbol{}) {
			t.Fatalf("behind the last symbol %v is read", got)
		}
	}
}

func TestWhatWasPutIsFound(t *testing.T) {
	g := draws(105)
	for n := range 120 {
		names := make([]string, n)
		last := map[string]int{}
		for i := range names {
			switch g.upTo(8) {
			case 0:
			case 1:
				names[i] = names[g.upTo(i+1)]
			default:
				names[i] = g.name(longest)
			}
			if i > 0 && names[i] != "" {
				last[names[i]] = i
			}
		}
		view, d := built(t, names...)
		counts(t, view, d, n)
		for name, i := range last {
			has(t, view, d, name, 1000+i)
		}
		for range 200 {
			if name := g.name(longest); last[name] == 0 {
				lacks(t, view, d, name)
			}
		}
		for name := range last {
			for _, near := range []string{name[1:], name + "x", name[:len(name)-1]} {
				if last[near] == 0 {
					lacks(t, view, d, near)
				}
			}
		}
	}
}

func TestWhatWasPutIsFoundOfMany(t *testing.T) {
	for _, n := range []int{most - 1, most} {
		names := make([]string, n)
		for i := range names {
			names[i] = "symbol" + strconv.Itoa(i*i)
		}
		view, d := built(t, names...)
		counts(t, view, d, n)
		for i := 1; i < n; i++ {
			if got, ok := symbol.Find(view, d, names[i]); !ok || got.Value != 1000+i {
				t.Fatalf("Find of %q: %v %v", names[i], got, ok)
			}
		}
		lacks(t, view, d, names[0])
		lacks(t, view, d, "symbol2")
	}
}

// R3

func TestWhatIsHandedInStays(t *testing.T) {
	names := append(make([]string, 0, 8), "", "b", "a", "", "a")
	had := slices.Clone(names)
	view, d := built(t, names...)
	d.Needed = append(make([]int, 0, 4), 5, 6)
	symbol.Find(view, d, "a")
	symbol.Read(view, d, 1)
	symbol.Count(view, d)
	if !slices.Equal(names, had) || !slices.Equal(names[:8], append(had, "", "", "")) || !slices.Equal(d.Needed[:4], []int{5, 6, 0, 0}) {
		t.Fatal("what was handed in has changed")
	}
	s, _ := symbol.Table(names)
	names[1], names[2] = "z", ""
	if again, _ := symbol.Table(had); again != s {
		t.Fatal("a table that was told has changed, or another one is told")
	}
}

// P1

func TestNothingPanics(t *testing.T) {
	view, d := built(t, "", "a", "b")
	for _, n := range edges {
		for _, m := range edges {
			for _, x := range []api.Dynamic{
				{Names: n, NamesSize: m, Symbols: d.Symbols, Hash: d.Hash}, {Names: d.Names, NamesSize: d.NamesSize, Symbols: n, Hash: m}, {Names: n, NamesSize: m, Symbols: n, Hash: m}, {Names: n, NamesSize: n, Symbols: m, Hash: m},
			} {
				for _, v := range []string{view, "", "\x00", strings.Repeat("\xff", 100), strings.Repeat("\x00", 100), strings.Repeat("\x01\x00\x00\x00", 40)} {
					finds(t, v, x, "a")
					finds(t, v, x, "")
					reads(t, v, x, n)
					reads(t, v, x, 1)
					counts(t, v, x, many(v, x))
				}
			}
		}
	}
	g := draws(106)
	for range 20000 {
		b := make([]byte, g.upTo(150))
		for range g.upTo(60) {
			if len(b) > 0 {
				b[g.upTo(len(b))] = byte(g.upTo(4))
			}
		}
		x := api.Dynamic{Names: g.upTo(40), NamesSize: g.upTo(40), Symbols: g.upTo(60), Hash: g.upTo(100)}
		for _, name := range []string{"", "\x01", "\x02", "\x03\x01"} {
			finds(t, string(b), x, name)
		}
		reads(t, string(b), x, g.upTo(6))
	}
}
