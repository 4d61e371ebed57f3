package dynamic_test

import (
	"bytes"
	"encoding/binary"
	"encoding/hex"
	"math"
	"slices"
	"strings"
	"testing"

	"flyleaf/api"
	"flyleaf/dynamic"
)

// The numbers are written out: a test that asked api for them would follow it if it were wrong.
const (
	entry   = 16
	record  = 24
	name    = 24
	many    = 64
	highest = 1 << 40
	slot    = 1879047669
)

// telling are the tags that say something; of them singles have a number of their own.
var (
	telling = []uint64{1, 4, 5, 6, 7, 8, 9, 10, 11, 14, slot}
	singles = []uint64{4, 5, 6, 7, 8, 10, 14, slot}
)

// silent are tags that say nothing: those beside the others, and those that have the others' lower bits.
var silent = []uint64{
	2, 3, 12, 13, 15, 16, 24, 255, 256, 257, 1 << 16, 1<<16 + 1, 0x6ffffdf4, 0x6ffffdf6, 0x6ffffef5, 1 << 31, 1 << 32, 1<<32 + 1, 1<<32 + 9,
	1<<32 + slot, 1<<40 + 8, 1<<63 + 1, 1<<63 + 4, 1 << 63, math.MaxUint64, math.MaxUint64 - 1, math.MaxUint32,
}

// edges are numbers at which the rules change, and those of int at which sums and differences go wrong first.
var edges = []int{
	math.MinInt, math.MinInt + 1, -1 << 62, -highest, math.MinInt32, -24, -2, -1, 0, 1, 2, 8, 16, 23, 24, 25, 26, 47, 48, 63, 64, 65, 72, 255, 256,
	1<<31 - 1, 1 << 31, 1 << 32, highest - 17, highest - 16, highest - 15, highest - 1, highest, highest + 1, highest + 8, 1 << 41, 1 << 62, math.MaxInt - 1, math.MaxInt,
}

// values are numbers of 64 bits that an entry may have.
func values() []uint64 {
	l := []uint64{1<<63 + 24, 1 << 63, math.MaxUint64 - 23, math.MaxUint64, 1<<40 + 24, 1<<48 + 24, 1<<63 + 1}
	for _, n := range edges {
		l = append(l, uint64(n))
	}
	return l
}

// row is a table of entries.
func row(numbers ...uint64) string {
	b := []byte{}
	for _, n := range numbers {
		b = binary.LittleEndian.AppendUint64(b, n)
	}
	return string(b)
}

// full has another number in each part.
func full() api.Dynamic {
	return api.Dynamic{Needed: []int{7, 3, 3, 0}, Names: 100, NamesSize: 55, Symbols: 200, Hash: 300, Relocs: 400, RelocsSize: 48, Own: 9, Slot: 16384}
}

// parts are where the numbers of the tags of singles are, to be changed.
func parts(d *api.Dynamic) []*int {
	return []*int{&d.Hash, &d.Names, &d.Symbols, &d.Relocs, &d.RelocsSize, &d.NamesSize, &d.Own, &d.Slot}
}

// equal tells whether all parts are the same.
func equal(a, b api.Dynamic) bool {
	if len(a.Needed) != len(b.Needed) {
		return false
	}
	for i, n := range a.Needed {
		if b.Needed[i] != n {
			return false
		}
	}
	a.Needed, b.Needed = nil, nil
	p, q := parts(&a), parts(&b)
	for i := range p {
		if *p[i] != *q[i] {
			return false
		}
	}
	return true
}

// written is the table of d as the document says it.
func written(d api.Dynamic) string {
	l := []uint64{}
	for _, n := range d.Needed {
		if n < 0 {
			n = 0
		}
		l = append(l, 1, uint64(n))
	}
	for i, p := range parts(&d) {
		if *p > 0 {
			l = append(l, singles[i], uint64(*p))
		}
	}
	if d.RelocsSize > 0 {
		l = append(l, 9, 24)
	}
	if d.Symbols > 0 {
		l = append(l, 11, 24)
	}
	return row(append(l, 0, 0)...)
}

// model reads a table as the document says it; false, if it is none.
func model(s string) (api.Dynamic, bool) {
	d := api.Dynamic{}
	last := -1
	for i := 0; (i+1)*entry <= len(s) && last < 0; i++ {
		if binary.LittleEndian.Uint64([]byte(s[i*entry:])) == 0 {
			last = i
		}
	}
	if last < 0 {
		return d, false
	}
	all := map[uint64][]uint64{}
	for i := range last {
		b := []byte(s[i*entry : (i+1)*entry])
		tag := binary.LittleEndian.Uint64(b)
		if slices.Contains(telling, tag) {
			all[tag] = append(all[tag], binary.LittleEndian.Uint64(b[8:]))
		}
	}
	for tag, l := range all {
		if tag != 1 && len(l) > 1 || tag == 1 && len(l) > 64 {
			return d, false
		}
		for _, n := range l {
			if n > 1<<40 || (tag == 9 || tag == 11) && n != 24 || tag == 8 && n%24 != 0 {
				return d, false
			}
		}
	}
	for _, n := range all[1] {
		d.Needed = append(d.Needed, int(n))
	}
	for i, p := range parts(&d) {
		for _, n := range all[singles[i]] {
			*p = int(n)
		}
	}
	return d, true
}

// tells asks what a table says.
func tells(t *testing.T, s string, want api.Dynamic) {
	t.Helper()
	if got, err := dynamic.Read(s); err != api.OK || !equal(got, want) {
		t.Fatalf("Read of %x: %v %d, want %v 0", s[:min(len(s), 320)], got, err, want)
	}
}

// refuses asks that a table is none.
func refuses(t *testing.T, s string) {
	t.Helper()
	if got, err := dynamic.Read(s); err != api.ErrLib || !equal(got, api.Dynamic{}) {
		t.Fatalf("Read of %x: %v %d, want nothing and ErrLib", s[:min(len(s), 320)], got, err)
	}
}

// alike asks whether a table is read as the model does, and tells whether it is one.
func alike(t *testing.T, s string) bool {
	t.Helper()
	want, ok := model(s)
	if ok {
		tells(t, s, want)
	} else {
		refuses(t, s)
	}
	return ok
}

// draws is a row of numbers that look drawn, the same each time.
type draws uint64

// upTo is the next number, from 0 to n - 1.
func (d *draws) upTo(n int) int {
	*d = *d*6364136223846793005 + 1442695040888963407
	return int(uint64(*d) >> 33 % uint64(n))
}

// table is one that often says something, and as often is off by a little.
func (d *draws) table() string {
	l := []uint64{}
	for _, tag := range telling {
		if d.upTo(2) > 0 {
			l = append(l, tag, uint64(24*d.upTo(50)))
			if tag == 9 || tag == 11 {
				l[len(l)-1] = 24
			}
		}
	}
	for range d.upTo(4) {
		l = append(l, 1, uint64(d.upTo(200)))
	}
	for range d.upTo(4) {
		l = append(l, silent[d.upTo(len(silent))], values()[d.upTo(len(edges))])
	}
	if d.upTo(3) == 0 {
		l = append(l, telling[d.upTo(len(telling))], uint64(d.upTo(60)))
	}
	if d.upTo(8) == 0 {
		l = append(l, telling[d.upTo(len(telling))], values()[d.upTo(len(edges))])
	}
	l = append(l, 0, uint64(d.upTo(2)))
	// The order is any: entries change places.
	moved := len(l)/2 - 1 + d.upTo(20)/19
	for i := range moved {
		j := d.upTo(moved)
		l[2*i], l[2*i+1], l[2*j], l[2*j+1] = l[2*j], l[2*j+1], l[2*i], l[2*i+1]
	}
	s := row(l...)
	if d.upTo(5) == 0 {
		s = s[:d.upTo(len(s)+1)]
	}
	return s
}

func TestLimits(t *testing.T) {
	if api.MaxName != name || api.ErrLib != 17 || api.OK != 0 {
		t.Fatal("the limits of api are other ones than the document's")
	}
}

// P9.1: Bytes

func TestBytesOfAllParts(t *testing.T) {
	want := "0100000000000000" + "0700000000000000" +
		"0100000000000000" + "0300000000000000" +
		"0100000000000000" + "0300000000000000" +
		"0100000000000000" + "0000000000000000" +
		"0400000000000000" + "2c01000000000000" +
		"0500000000000000" + "6400000000000000" +
		"0600000000000000" + "c800000000000000" +
		"0700000000000000" + "9001000000000000" +
		"0800000000000000" + "3000000000000000" +
		"0a00000000000000" + "3700000000000000" +
		"0e00000000000000" + "0900000000000000" +
		"f5fdff6f00000000" + "0040000000000000" +
		"0900000000000000" + "1800000000000000" +
		"0b00000000000000" + "1800000000000000" +
		"0000000000000000" + "0000000000000000"
	if got := hex.EncodeToString([]byte(dynamic.Bytes(full()))); got != want {
		t.Fatalf("Bytes: %s, want %s", got, want)
	}
}

func TestBytesOfNothing(t *testing.T) {
	for _, d := range []api.Dynamic{{}, {Needed: []int{}}, {Names: -1, NamesSize: -1, Symbols: -1, Hash: -1, Relocs: -1, RelocsSize: -1, Own: -1, Slot: -1}} {
		if got := dynamic.Bytes(d); got != row(0, 0) {
			t.Fatalf("Bytes of %v: %x", d, got)
		}
	}
}

// TestBytesOfEachPart has each number of each part, by itself, and beside all others.
func TestBytesOfEachPart(t *testing.T) {
	for i := range singles {
		for _, n := range edges {
			for _, d := range []api.Dynamic{{}, full()} {
				*parts(&d)[i] = n
				if got, want := dynamic.Bytes(d), written(d); got != want {
					t.Fatalf("Bytes of %v: %x, want %x", d, got, want)
				}
			}
		}
	}
}

func TestBytesOfPairs(t *testing.T) {
	for i := range singles {
		for j := range i {
			d := api.Dynamic{}
			*parts(&d)[i], *parts(&d)[j] = 480, 24
			if got, want := dynamic.Bytes(d), written(d); got != want {
				t.Fatalf("Bytes of %v: %x, want %x", d, got, want)
			}
		}
	}
}

func TestBytesOfNeeded(t *testing.T) {
	d := api.Dynamic{Needed: edges}
	if got, want := dynamic.Bytes(d), written(d); got != want {
		t.Fatalf("Bytes of %v: %x, want %x", d, got, want)
	}
	// Read takes 64 at most, but Bytes says nothing of a limit.
	for _, n := range []int{1, 63, 64, 65, 1000} {
		d := api.Dynamic{Needed: make([]int, n)}
		for i := range n {
			d.Needed[i] = n - i
		}
		if got, want := dynamic.Bytes(d), written(d); got != want || len(got) != entry*(n+1) {
			t.Fatalf("Bytes of %d needed libraries: %x, want %x", n, got, want)
		}
	}
}

// P9.1: Read

func TestReadExamples(t *testing.T) {
	tells(t, dynamic.Bytes(api.Dynamic{Needed: []int{3}}), api.Dynamic{Needed: []int{3}})
	refuses(t, "")
	tells(t, row(0, 0), api.Dynamic{})
	tells(t, written(full()), full())
}

// TestReadOfOneEntry has each tag with each value.
func TestReadOfOneEntry(t *testing.T) {
	for _, tag := range append(append([]uint64{0}, telling...), silent...) {
		for _, n := range values() {
			alike(t, row(tag, n, 0, 0))
			if ok := alike(t, row(tag, n)); ok != (tag == 0) {
				t.Fatalf("the model reads a table without an end: tag %d", tag)
			}
		}
	}
	for n := range uint64(300) {
		for _, tag := range telling {
			alike(t, row(tag, n, 0, 0))
		}
	}
}

func TestReadNumbers(t *testing.T) {
	tells(t, row(5, highest, 0, 0), api.Dynamic{Names: highest})
	tells(t, row(1, highest, 0, 0), api.Dynamic{Needed: []int{highest}})
	tells(t, row(slot, highest, 0, 0), api.Dynamic{Slot: highest})
	tells(t, row(14, 1, 0, 0), api.Dynamic{Own: 1})
	// 24 goes into the greatest number but 16.
	tells(t, row(8, highest-16, 0, 0), api.Dynamic{RelocsSize: highest - 16})
	tells(t, row(8, 0, 0, 0), api.Dynamic{})
	for _, tag := range singles {
		refuses(t, row(tag, highest+1, 0, 0))
		refuses(t, row(tag, highest+8, 0, 0))
		refuses(t, row(tag, 1<<63, 0, 0))
	}
	refuses(t, row(1, highest+1, 0, 0))
	refuses(t, row(1, math.MaxUint64, 0, 0))
	for _, n := range []uint64{0, 1, 23, 25, 48, highest, 1<<32 + 24, math.MaxUint64} {
		refuses(t, row(9, n, 0, 0))
		refuses(t, row(11, n, 0, 0))
	}
	for _, n := range []uint64{1, 12, 23, 25, highest, highest + 8} {
		refuses(t, row(8, n, 0, 0))
	}
	tells(t, row(9, 24, 11, 24, 0, 0), api.Dynamic{})
}

// TestReadTwice has each tag twice, with all values, next to each other or not.
func TestReadTwice(t *testing.T) {
	for _, tag := range telling {
		for _, n := range []uint64{0, 24, 48} {
			for _, m := range []uint64{0, 24, 48} {
				for _, s := range []string{row(tag, n, tag, m, 0, 0), row(tag, n, 3, 5, tag, m, 0, 0), row(1, 4, tag, n, 14, 5, tag, m, 0, 0)} {
					if alike(t, s) && tag != 1 {
						t.Fatalf("the model reads tag %d twice", tag)
					}
				}
			}
		}
	}
	for _, tag := range silent {
		tells(t, row(tag, 5, tag, 5, tag, 6, 14, 7, tag, math.MaxUint64, 0, 0), api.Dynamic{Own: 7})
	}
	tells(t, row(1, 5, 1, 5, 1, 0, 0, 0), api.Dynamic{Needed: []int{5, 5, 0}})
}

func TestReadPairs(t *testing.T) {
	for _, tag := range append(slices.Clone(telling), silent...) {
		for _, other := range append(slices.Clone(telling), silent...) {
			if ok := alike(t, row(tag, 24, other, 24, 0, 0)); ok != (tag == 1 || tag != other || slices.Contains(silent, tag)) {
				t.Fatalf("tags %d and %d: %v", tag, other, ok)
			}
			alike(t, row(tag, 24, other, highest+1, 0, 0))
			alike(t, row(tag, 25, other, 24, 0, 0))
		}
	}
}

func TestReadNeeded(t *testing.T) {
	for n := range many + 3 {
		d := api.Dynamic{}
		for i := range n {
			d.Needed = append(d.Needed, i*i)
		}
		if s := dynamic.Bytes(d); n <= many {
			tells(t, s, d)
		} else {
			refuses(t, s)
		}
	}
	d := api.Dynamic{Needed: make([]int, many)}
	tells(t, row(2, 2)+dynamic.Bytes(d), d)
	refuses(t, row(1, 0, 2, 2)+dynamic.Bytes(d))
	refuses(t, dynamic.Bytes(api.Dynamic{Needed: make([]int, 5000)}))
	// Those behind the end are not counted.
	tells(t, dynamic.Bytes(d)+dynamic.Bytes(d), d)
}

func TestReadEnds(t *testing.T) {
	d := full()
	for _, n := range values() {
		tells(t, strings.TrimSuffix(written(d), row(0, 0))+row(0, n), d)
	}
	// What is behind the end may be anything.
	for _, behind := range []string{"x", row(0), row(0, 0), row(1, math.MaxUint64), row(4, 5, 4, 5), row(9, 9), written(d), strings.Repeat("\xff", 1000)} {
		tells(t, written(d)+behind, d)
		tells(t, row(0, 0)+behind, api.Dynamic{})
	}
	// Ahead of the end a table may not be wrong, even where it says all.
	refuses(t, strings.TrimSuffix(written(d), row(0, 0))+row(9, 9, 0, 0))
	refuses(t, row(9, 9)+written(d))
}

// TestReadCut cuts a table at each of its bytes: an entry is there whole, or not at all.
func TestReadCut(t *testing.T) {
	for _, d := range []api.Dynamic{{}, {Needed: []int{1}}, full()} {
		s := written(d)
		for n := range len(s) {
			refuses(t, s[:n])
		}
		tells(t, s, d)
		for n := range entry {
			alike(t, s[n:])
			alike(t, strings.Repeat("\x03", n)+s)
		}
	}
	tells(t, row(0)+row(0), api.Dynamic{})
	refuses(t, row(0))
	refuses(t, row(0)+"1234567")
	// Entries are as many bytes from each other as they have: an end between two of them is none.
	refuses(t, row(2, 0, 0xff, 0, 0xff))
	refuses(t, row(7)+row(0, 0))
	refuses(t, "\x07"+row(0, 0)+row(0, 0)[:14])
}

func TestReadChangedBytes(t *testing.T) {
	s := []byte(written(full()))
	count := map[bool]int{}
	for i := range s {
		had := s[i]
		for b := range 256 {
			s[i] = byte(b)
			count[alike(t, string(s))]++
		}
		s[i] = had
	}
	if count[true] < 1000 || count[false] < 1000 {
		t.Fatalf("too few of one kind: %v", count)
	}
}

func TestReadDrawnTables(t *testing.T) {
	d := draws(9)
	count := map[bool]int{}
	for range 40000 {
		count[alike(t, d.table())]++
	}
	if count[true] < 5000 || count[false] < 5000 {
		t.Fatalf("too few of one kind were drawn: %v", count)
	}
}

func TestReadLongTables(t *testing.T) {
	many := strings.Repeat(row(2, 3, 15, 7, 1<<63, math.MaxUint64), 20000)
	refuses(t, many)
	tells(t, many+row(14, 3, 0, 0), api.Dynamic{Own: 3})
	refuses(t, row(14, 3)+many+row(14, 3, 0, 0))
	refuses(t, strings.Repeat("\xff", 100001))
	tells(t, strings.Repeat("\x00", 100001), api.Dynamic{})
}

// P9.2: Name

// named has names from byte 10 on: an empty one, some, one of 24 bytes, one of 25 bytes, and one that ends with the view.
func named() (string, api.Dynamic) {
	names := "\x00libc\x00m\x00" + strings.Repeat("n", name) + "\x00" + strings.Repeat("o", name+1) + "\x00last\x00"
	return "0123456789" + names, api.Dynamic{Names: 10, NamesSize: len(names)}
}

// spelt is the name at a place, as the document says it, byte by byte.
func spelt(view string, d api.Dynamic, at int) (string, bool) {
	if at < 0 || d.Names < 0 || d.NamesSize < 0 || d.Names > len(view) || at >= len(view)-d.Names || at >= d.NamesSize {
		return "", false
	}
	b := []byte{}
	for i := at; i < d.NamesSize && d.Names+i < len(view); i++ {
		c := view[d.Names+i]
		if c == 0 {
			return string(b), len(b) <= name
		}
		b = append(b, c)
		if len(b) > name {
			return "", false
		}
	}
	return "", false
}

// names asks for a name.
func names(t *testing.T, view string, d api.Dynamic, at int) {
	t.Helper()
	want, there := spelt(view, d, at)
	if got, ok := dynamic.Name(view, d, at); got != want || ok != there {
		t.Fatalf("Name(%q, %v, %d): %q %v, want %q %v", view, d, at, got, ok, want, there)
	}
}

func TestNameExamples(t *testing.T) {
	view, d := named()
	n, o := strings.Repeat("n", name), strings.Repeat("o", name)
	for _, c := range []struct {
		at    int
		name  string
		there bool
	}{
		{-1, "", false}, {0, "", true}, {1, "libc", true}, {2, "ibc", true}, {4, "c", true}, {5, "", true}, {6, "m", true}, {7, "", true},
		{8, n, true}, {9, n[1:], true}, {32, "", true}, {33, "", false}, {34, o, true}, {58, "", true}, {59, "last", true}, {63, "", true}, {64, "", false}, {65, "", false},
	} {
		if got, ok := dynamic.Name(view, d, c.at); got != c.name || ok != c.there {
			t.Errorf("Name at %d: %q %v, want %q %v", c.at, got, ok, c.name, c.there)
		}
		names(t, view, d, c.at)
	}
}

// TestNameAtAllPlaces has all places, sizes and beginnings of names, so that they end ahead of the view, with it, and behind it.
func TestNameAtAllPlaces(t *testing.T) {
	view, _ := named()
	for from := -2; from <= len(view)+2; from++ {
		for size := -2; size <= len(view)+3; size++ {
			d := api.Dynamic{Names: from, NamesSize: size}
			for at := -2; at <= len(view)+3; at++ {
				names(t, view, d, at)
			}
		}
	}
}

func TestNameAtEdges(t *testing.T) {
	view, d := named()
	l := append([]int{5, 6, 10, 33, 34, 59, 62, 63, 73, 74, 75, math.MaxInt - 5, math.MaxInt - 10, math.MaxInt - 74}, edges...)
	for _, from := range l {
		for _, size := range l {
			for _, at := range l {
				names(t, view, api.Dynamic{Names: from, NamesSize: size}, at)
				names(t, "", api.Dynamic{Names: from, NamesSize: size}, at)
			}
		}
	}
	d.NamesSize = math.MaxInt
	if got, ok := dynamic.Name(view, d, 59); got != "last" || !ok {
		t.Fatalf("Name, where the names are said to go on behind the view: %q %v", got, ok)
	}
}

// TestNameAnyBytes has names of any bytes but 0, and of each length.
func TestNameAnyBytes(t *testing.T) {
	b := []byte{}
	for c := 1; c < 256; c++ {
		b = append(b, byte(c))
	}
	for n := range 40 {
		for from := range len(b) - n {
			s := string(b[from : from+n])
			view := s + "\x00"
			d := api.Dynamic{NamesSize: n + 1}
			got, ok := dynamic.Name(view, d, 0)
			if want := n <= name; ok != want || want && got != s || !want && got != "" {
				t.Fatalf("Name of %q: %q %v", s, got, ok)
			}
			// Without its byte 0 it is none.
			d.NamesSize = n
			if got, ok := dynamic.Name(view, d, 0); got != "" || ok {
				t.Fatalf("Name of %q without its end: %q %v", s, got, ok)
			}
			if got, ok := dynamic.Name(s, api.Dynamic{NamesSize: 100}, 0); got != "" || ok {
				t.Fatalf("Name of %q at the view's end: %q %v", s, got, ok)
			}
		}
	}
}

// TestNameAsksForNothingElse has all other parts of d be anything.
func TestNameAsksForNothingElse(t *testing.T) {
	view, d := named()
	for i, tag := range singles {
		if tag == 5 || tag == 10 {
			continue
		}
		for _, n := range edges {
			x := d
			*parts(&x)[i] = n
			names(t, view, x, 1)
		}
	}
}

// P9.2: Names

// lists asks for the names of d.
func lists(t *testing.T, view string, d api.Dynamic, want ...string) {
	t.Helper()
	if got, err := dynamic.Names(view, d); err != api.OK || !slices.Equal(got, want) {
		t.Fatalf("Names(%q, %v): %q %d, want %q 0", view, d, got, err, want)
	}
}

// lacks asks that a name of d is none, or empty.
func lacks(t *testing.T, view string, d api.Dynamic) {
	t.Helper()
	if got, err := dynamic.Names(view, d); err != api.ErrLib || len(got) != 0 {
		t.Fatalf("Names(%q, %v): %q %d, want nothing and ErrLib", view, d, got, err)
	}
}

func TestNames(t *testing.T) {
	view, d := named()
	lists(t, view, d)
	d.Needed = []int{}
	lists(t, view, d)
	d.Needed = []int{59, 1, 8, 1, 6}
	lists(t, view, d, "last", "libc", strings.Repeat("n", name), "libc", "m")
	// Without anything needed nothing is asked of the names.
	lists(t, "", api.Dynamic{Names: -1, NamesSize: -1})
	for _, wrong := range []int{-1, 0, 5, 33, 63, 64, 1000, math.MaxInt, math.MinInt} {
		for i := range d.Needed {
			x := d
			x.Needed = slices.Clone(d.Needed)
			x.Needed[i] = wrong
			lacks(t, view, x)
			x.Needed = []int{wrong}
			lacks(t, view, x)
		}
	}
}

func TestNamesAtAllPlaces(t *testing.T) {
	view, d := named()
	for _, size := range []int{-1, 0, 1, 5, 6, 33, d.NamesSize - 1, d.NamesSize, d.NamesSize + 1, math.MaxInt} {
		for _, from := range append([]int{9, 10, 11, len(view), len(view) + 1}, edges...) {
			for at := -1; at <= len(view); at++ {
				x := api.Dynamic{Names: from, NamesSize: size, Needed: []int{at}}
				if want, _ := spelt(view, x, at); want != "" {
					lists(t, view, x, want)
				} else {
					lacks(t, view, x)
				}
			}
		}
	}
}

func TestManyNames(t *testing.T) {
	view, d := named()
	want := []string{}
	for range 3000 {
		d.Needed = append(d.Needed, 1, 6)
		want = append(want, "libc", "m")
	}
	lists(t, view, d, want...)
	d.Needed = append(d.Needed, 0)
	lacks(t, view, d)
}

// P9.2: Own

func TestOwn(t *testing.T) {
	view, d := named()
	l := slices.Clone(edges)
	for n := -3; n < len(view)+3; n++ {
		l = append(l, n)
	}
	for _, n := range l {
		d.Own = n
		want, there := "", false
		if n > 0 {
			want, there = spelt(view, d, n-1)
		}
		if got, ok := dynamic.Own(view, d); got != want || ok != there {
			t.Fatalf("Own of %d: %q %v, want %q %v", n, got, ok, want, there)
		}
	}
}

func TestOwnExamples(t *testing.T) {
	view, d := named()
	for _, c := range []struct {
		own   int
		name  string
		there bool
	}{{0, "", false}, {1, "", true}, {2, "libc", true}, {7, "m", true}, {34, "", false}, {60, "last", true}, {64, "", true}, {65, "", false}, {-1, "", false}, {math.MinInt, "", false}, {math.MaxInt, "", false}} {
		d.Own = c.own
		if got, ok := dynamic.Own(view, d); got != c.name || ok != c.there {
			t.Errorf("Own of %d: %q %v, want %q %v", c.own, got, ok, c.name, c.there)
		}
	}
	for _, x := range []api.Dynamic{{Own: 1}, {Own: 2, Names: 10, NamesSize: 5}, {Own: 2, Names: -1, NamesSize: 100}, {Own: 2, Names: 10, NamesSize: -1}, {Own: 2, Names: 100, NamesSize: 100}} {
		if got, ok := dynamic.Own(view, x); got != "" || ok {
			t.Errorf("Own of %v: %q %v", x, got, ok)
		}
	}
}

// P9.2: Same

func TestSame(t *testing.T) {
	same := func(a, b api.Dynamic, want bool) {
		t.Helper()
		if dynamic.Same(a, b) != want || dynamic.Same(b, a) != want {
			t.Fatalf("Same(%v, %v): want %v", a, b, want)
		}
	}
	same(api.Dynamic{}, api.Dynamic{}, true)
	same(api.Dynamic{}, api.Dynamic{Needed: []int{}}, true)
	same(full(), full(), true)
	same(full(), api.Dynamic{}, false)
	for i := range singles {
		for _, n := range edges {
			a, b := full(), full()
			*parts(&b)[i] = n
			same(a, b, *parts(&a)[i] == n)
			*parts(&a)[i] = n
			same(a, b, true)
			x := api.Dynamic{}
			*parts(&x)[i] = n
			same(x, api.Dynamic{}, n == 0)
		}
	}
	// Two parts that change places are not the same.
	for i := range singles {
		for j := range i {
			a := full()
			p := parts(&a)
			*p[i], *p[j] = *p[j], *p[i]
			same(a, full(), false)
		}
	}
}

func TestSameNeeded(t *testing.T) {
	lists := [][]int{nil, {0}, {1}, {-1}, {0, 0}, {0, 1}, {1, 0}, {1, 1}, {7, 3, 3, 0}, {7, 3, 3}, {7, 3, 3, 1}, {3, 7, 3, 0}, {math.MinInt}, {math.MaxInt}}
	for i, l := range lists {
		for j, k := range lists {
			a, b := full(), full()
			a.Needed, b.Needed = slices.Clone(l), slices.Clone(k)
			if dynamic.Same(a, b) != (i == j) {
				t.Fatalf("Same of %v and %v needed", l, k)
			}
		}
	}
}

// P9.3

func TestWhatWasWrittenIsRead(t *testing.T) {
	d := draws(93)
	for range 20000 {
		x := api.Dynamic{}
		for range d.upTo(many+1) * d.upTo(2) {
			x.Needed = append(x.Needed, d.upTo(1<<30)<<d.upTo(11))
		}
		for i, p := range parts(&x) {
			if d.upTo(3) > 0 {
				*p = d.upTo(1<<30) << d.upTo(11)
			}
			if singles[i] == 8 {
				*p = *p / record * record
			}
		}
		s := dynamic.Bytes(x)
		if want := written(x); s != want {
			t.Fatalf("Bytes of %v: %x, want %x", x, s, want)
		}
		tells(t, s, x)
		if y, _ := dynamic.Read(s); !dynamic.Same(x, y) || dynamic.Bytes(y) != s {
			t.Fatalf("%v was written, and %v is read", x, y)
		}
		// Within more bytes it is read, too.
		tells(t, s+"behind", x)
	}
}

// TestWhatWasWrittenIsReadAtEdges has numbers at all edges: those that may not be are not read, those below 0 are nothing.
func TestWhatWasWrittenIsReadAtEdges(t *testing.T) {
	for i, tag := range singles {
		for _, n := range edges {
			x := full()
			*parts(&x)[i] = n
			want := full()
			*parts(&want)[i] = max(n, 0)
			if n > highest || tag == 8 && n > 0 && n%record != 0 {
				refuses(t, dynamic.Bytes(x))
			} else {
				tells(t, dynamic.Bytes(x), want)
			}
		}
	}
	for _, n := range edges {
		x := api.Dynamic{Needed: []int{5, n, 6}}
		if n > highest {
			refuses(t, dynamic.Bytes(x))
		} else {
			tells(t, dynamic.Bytes(x), api.Dynamic{Needed: []int{5, max(n, 0), 6}})
		}
	}
}

// R3

func TestWhatIsHandedInStays(t *testing.T) {
	view, d := named()
	d.Needed = append(make([]int, 0, 8), 1, -6, 6)
	had := slices.Clone(d.Needed)
	dynamic.Bytes(d)
	dynamic.Names(view, d)
	dynamic.Name(view, d, 1)
	dynamic.Own(view, d)
	dynamic.Same(d, d)
	if !slices.Equal(d.Needed, had) || !slices.Equal(d.Needed[:8], append(had, 0, 0, 0, 0, 0)) {
		t.Fatal("what was handed in has changed")
	}
}

func TestWhatIsToldIsItsOwners(t *testing.T) {
	s := dynamic.Bytes(full())
	a, _ := dynamic.Read(s)
	b, _ := dynamic.Read(s)
	a.Needed[0] = 99
	a.Needed = append(a.Needed, 99)
	if !equal(b, full()) {
		t.Fatal("what was told has changed")
	}
	tells(t, s, full())
	view, d := named()
	d.Needed = []int{1, 6}
	x, _ := dynamic.Names(view, d)
	y, _ := dynamic.Names(view, d)
	x[0], d.Needed[1] = "z", 0
	if !slices.Equal(y, []string{"libc", "m"}) {
		t.Fatal("the names that were told have changed")
	}
}

// P1

func TestNothingPanics(t *testing.T) {
	view, d := named()
	for _, n := range edges {
		for _, m := range edges {
			for i := range singles {
				x := d
				*parts(&x)[i] = n
				x.Needed = []int{m}
				dynamic.Read(dynamic.Bytes(x))
				dynamic.Names(view, x)
				dynamic.Names("", x)
				dynamic.Own(view, x)
				dynamic.Own("", x)
				dynamic.Name(view, x, m)
				dynamic.Name("", x, m)
				dynamic.Same(x, d)
			}
		}
	}
	g := draws(1)
	for range 20000 {
		b := bytes.Repeat([]byte{0}, g.upTo(70))
		for range g.upTo(12) {
			if len(b) > 0 {
				b[g.upTo(len(b))] = byte(g.upTo(256))
			}
		}
		alike(t, string(b))
	}
}
