package reloc_test

import (
	"encoding/binary"
	"encoding/hex"
	"math"
	"math/big"
	"slices"
	"strings"
	"testing"

	"flyleaf/api"
	"flyleaf/reloc"
)

// The numbers are written out: a test that asked the program for them would follow it if it were wrong.
const (
	record = 24
	filled = 8
	word   = 1
	data   = 6
	jump   = 7
	base   = 8
)

// kinds are the kinds that there are; others are some that there aren't, of which the last ones have the lower bits of those.
var (
	kinds  = []int{word, data, jump, base}
	others = []int{math.MinInt, math.MinInt + 1, -8, -7, -1, 0, 2, 3, 4, 5, 9, 10, 16, 255, 1<<31 - 1, 1 << 31, math.MaxUint32, math.MaxInt, 1<<8 + 1, 1<<16 + 6, 1<<31 + 7, 1<<32 + 1, 1<<32 + 8, 1<<62 + 8}
)

// edges are numbers at which the rules change, and those of int at which sums and differences go wrong first.
var edges = []int{
	math.MinInt, math.MinInt + 1, math.MinInt + 8, -1 << 62, -1 << 40, math.MinInt32, -48, -25, -24, -23, -8, -2, -1, 0, 1, 2, 7, 8, 9, 16, 23, 24, 25, 47, 48, 49, 72, 255, 256, 4096,
	1<<31 - 1, 1 << 31, 1<<32 - 1, 1 << 32, 1<<32 + 5, 1 << 40, 1<<62 - 1, 1 << 62, math.MaxInt/24*24 - 24, math.MaxInt / 24 * 24, math.MaxInt - 24, math.MaxInt - 8, math.MaxInt - 7, math.MaxInt - 1, math.MaxInt,
}

// laid is a relocation with any numbers.
func laid(at uint64, kind, symbol uint32, add uint64) string {
	b := binary.LittleEndian.AppendUint64(nil, at)
	b = binary.LittleEndian.AppendUint32(b, kind)
	b = binary.LittleEndian.AppendUint32(b, symbol)
	return string(binary.LittleEndian.AppendUint64(b, add))
}

// least is n, or 0, if it is below, of the lower bits that are asked for.
func least(n int, bits uint) uint64 {
	if n < 0 {
		return 0
	}
	return uint64(n) << (64 - bits) >> (64 - bits)
}

// written is a relocation's bytes as the document says them.
func written(r api.Reloc) string {
	return laid(least(r.At, 64), uint32(least(r.Kind, 32)), uint32(least(r.Symbol, 32)), uint64(r.Add))
}

// model is what a view's relocations are as the document says it; false, if they are none.
func model(view string, d api.Dynamic) ([]api.Reloc, bool) {
	if d.RelocsSize == 0 {
		return nil, true
	}
	if d.Relocs < 0 || d.RelocsSize < 0 || d.Relocs > len(view) || d.RelocsSize > len(view)-d.Relocs {
		return nil, false
	}
	l := []api.Reloc{}
	for s := view[d.Relocs : d.Relocs+d.RelocsSize]; s != ""; s = s[record:] {
		if len(s) < record {
			return nil, false
		}
		b := []byte(s[:record])
		at, kind, symbol, add := binary.LittleEndian.Uint64(b), binary.LittleEndian.Uint32(b[8:]), binary.LittleEndian.Uint32(b[12:]), binary.LittleEndian.Uint64(b[16:])
		if !slices.Contains(kinds, int(kind)) || (kind == base) != (symbol == 0) || len(view) < filled || at > uint64(len(view)-filled) {
			return nil, false
		}
		l = append(l, api.Reloc{At: int(at), Kind: int(kind), Symbol: int(symbol), Add: int64(add)})
	}
	return l, true
}

// alike asks whether relocations are read as the model does, and tells whether they are some.
func alike(t *testing.T, view string, d api.Dynamic) bool {
	t.Helper()
	want, ok := model(view, d)
	if ok {
		tells(t, view, d, want...)
	} else {
		refuses(t, view, d)
	}
	return ok
}

// tells asks what a view's relocations are.
func tells(t *testing.T, view string, d api.Dynamic, want ...api.Reloc) {
	t.Helper()
	if got, err := reloc.Read(view, d); err != api.OK || !slices.Equal(got, want) {
		t.Fatalf("Read(%x, %v): %v %d, want %v 0", view[:min(len(view), 320)], d, got, err, want)
	}
}

// refuses asks that a view's relocations are none.
func refuses(t *testing.T, view string, d api.Dynamic) {
	t.Helper()
	if got, err := reloc.Read(view, d); err != api.ErrLib || len(got) != 0 {
		t.Fatalf("Read(%x, %v): %v %d, want nothing and ErrLib", view[:min(len(view), 320)], d, got, err)
	}
}

// within is a view in which a table stands, with bytes ahead and behind.
func within(table string) (string, api.Dynamic) {
	return "ahead..." + table + "behind it", api.Dynamic{Relocs: 8, RelocsSize: len(table)}
}

// four has one relocation of each kind, for a view of at least 60 bytes.
func four() []api.Reloc {
	return []api.Reloc{{At: 0, Kind: word, Symbol: 1, Add: -1}, {At: 52, Kind: data, Symbol: 2, Add: math.MaxInt64}, {At: 7, Kind: jump, Symbol: math.MaxUint32, Add: math.MinInt64}, {At: 33, Kind: base, Add: 16}}
}

// all is the bytes of relocations as the document says them.
func all(l []api.Reloc) string {
	s := ""
	for _, r := range l {
		s += written(r)
	}
	return s
}

// draws is a row of numbers that look drawn, the same each time.
type draws uint64

// upTo is the next number, from 0 to n - 1.
func (d *draws) upTo(n int) int {
	*d = *d*6364136223846793005 + 1442695040888963407
	return int(uint64(*d) >> 33 % uint64(n))
}

// wide is the next number of 64 bits, as often one of few bits.
func (d *draws) wide() uint64 {
	return (uint64(d.upTo(1<<31))<<33 ^ uint64(d.upTo(1<<31))<<8 ^ uint64(d.upTo(256))) >> d.upTo(64)
}

// reloc is one that may be, in a view of so many bytes.
func (d *draws) reloc(all int) api.Reloc {
	r := api.Reloc{At: d.upTo(all - filled + 1), Kind: kinds[d.upTo(4)], Add: int64(d.wide())}
	if d.upTo(2) > 0 {
		r.Add = -r.Add
	}
	if r.Kind != base {
		r.Symbol = 1 + d.upTo(1<<31) + d.upTo(2)<<31
		r.Symbol = min(r.Symbol>>d.upTo(32)+1, math.MaxUint32)
	}
	return r
}

func TestLimits(t *testing.T) {
	if api.ErrLib != 17 || api.OK != 0 || api.RelocWord != word || api.RelocData != data || api.RelocJump != jump || api.RelocBase != base {
		t.Fatal("the numbers of api are other ones than the document's")
	}
}

// P11.1: Bytes

func TestBytesExamples(t *testing.T) {
	for _, c := range []struct {
		r    api.Reloc
		want string
	}{
		{api.Reloc{}, "0000000000000000" + "00000000" + "00000000" + "0000000000000000"},
		{api.Reloc{At: 258, Kind: base, Add: 16}, "0201000000000000" + "08000000" + "00000000" + "1000000000000000"},
		{api.Reloc{At: 64, Kind: word, Symbol: 3, Add: -1}, "4000000000000000" + "01000000" + "03000000" + "ffffffffffffffff"},
		{api.Reloc{At: 0x0102030405060708, Kind: 0x11121314, Symbol: 0x21222324, Add: 0x3132333435363738}, "0807060504030201" + "14131211" + "24232221" + "3837363534333231"},
		{api.Reloc{At: -1, Kind: -1, Symbol: -1, Add: -2}, "0000000000000000" + "00000000" + "00000000" + "feffffffffffffff"},
		{api.Reloc{At: math.MinInt, Kind: math.MinInt, Symbol: math.MinInt, Add: math.MinInt64}, "0000000000000000" + "00000000" + "00000000" + "0000000000000080"},
		{api.Reloc{At: math.MaxInt, Kind: math.MaxUint32, Symbol: math.MaxUint32, Add: math.MaxInt64}, "ffffffffffffff7f" + "ffffffff" + "ffffffff" + "ffffffffffffff7f"},
		{api.Reloc{Kind: 1<<32 + 6, Symbol: 1<<40 + 5}, "0000000000000000" + "06000000" + "05000000" + "0000000000000000"},
	} {
		if got := hex.EncodeToString([]byte(reloc.Bytes(c.r))); got != c.want {
			t.Errorf("Bytes(%v): %s, want %s", c.r, got, c.want)
		}
	}
}

func TestBytesAtEdges(t *testing.T) {
	for _, n := range edges {
		for _, m := range edges {
			for _, r := range []api.Reloc{{At: n, Kind: m, Symbol: 5, Add: 6}, {At: 5, Kind: n, Symbol: m, Add: -6}, {At: n, Kind: 7, Symbol: m}, {At: 9, Kind: 8, Symbol: n, Add: int64(m)}, {At: n, Add: int64(m)}} {
				if got, want := reloc.Bytes(r), written(r); got != want {
					t.Fatalf("Bytes(%v): %x, want %x", r, got, want)
				}
			}
		}
	}
}

// P11.1: Read

func TestReadExamples(t *testing.T) {
	view, d := within(all(four()))
	tells(t, view, d, four()...)
	view, d = within(laid(5, base, 0, math.MaxUint64))
	tells(t, view, d, api.Reloc{At: 5, Kind: base, Add: -1})
	// A table may be at address 0, and be all that there is.
	tells(t, laid(0, word, 1, 2)+laid(40, data, 3, 0), api.Dynamic{RelocsSize: 48}, api.Reloc{Kind: word, Symbol: 1, Add: 2}, api.Reloc{At: 40, Kind: data, Symbol: 3})
	// A place may be filled more than once, and in the table itself.
	view, d = within(laid(9, base, 0, 3) + laid(9, base, 0, 3) + laid(10, jump, 4, 0))
	tells(t, view, d, api.Reloc{At: 9, Kind: base, Add: 3}, api.Reloc{At: 9, Kind: base, Add: 3}, api.Reloc{At: 10, Kind: jump, Symbol: 4})
}

func TestReadOfNothing(t *testing.T) {
	for _, n := range edges {
		for _, view := range []string{"", "view", all(four())} {
			tells(t, view, api.Dynamic{Relocs: n})
			// Whatever else the program says has no part in it.
			tells(t, view, api.Dynamic{Relocs: n, Needed: []int{n}, Names: n, NamesSize: n, Symbols: n, Hash: n, Own: n, Slot: n})
		}
	}
}

// TestReadOfOtherParts has all other parts of what a program says be any number.
func TestReadOfOtherParts(t *testing.T) {
	view, d := within(all(four()))
	for _, n := range edges {
		tells(t, view, api.Dynamic{Relocs: d.Relocs, RelocsSize: d.RelocsSize, Needed: []int{n}, Names: n, NamesSize: n, Symbols: n, Hash: n, Own: n, Slot: n}, four()...)
	}
}

// TestReadAtAllPlaces has tables of all beginnings and sizes in a view of which each byte could be one's beginning.
func TestReadAtAllPlaces(t *testing.T) {
	view := all(four()) + all(four())
	count := map[bool]int{}
	for at := -3; at < len(view)+30; at++ {
		for n := -50; n < len(view)+50; n++ {
			count[alike(t, view, api.Dynamic{Relocs: at, RelocsSize: n})]++
		}
	}
	// Of sizes above 0 there are 8 at address 0, 7 at 24, and so on; none is between.
	if want := 8*9/2 + len(view) + 33; count[true] != want {
		t.Fatalf("%d tables are some, want %d", count[true], want)
	}
	for _, at := range edges {
		for _, n := range edges {
			alike(t, view, api.Dynamic{Relocs: at, RelocsSize: n})
			alike(t, "", api.Dynamic{Relocs: at, RelocsSize: n})
			if n%record != 0 || n < 0 || n > len(view) || at < 0 || n > 0 && at > len(view) {
				if n != 0 {
					refuses(t, view, api.Dynamic{Relocs: at, RelocsSize: n})
				}
			}
		}
	}
}

// TestReadOfAllSizes has parts of a table: only where 24 goes into the size they are some.
func TestReadOfAllSizes(t *testing.T) {
	l := slices.Concat(four(), four(), four())
	view, d := within(all(l))
	for n := range len(all(l)) + 1 {
		d.RelocsSize = n
		if n%record == 0 {
			tells(t, view, d, l[:n/record]...)
		} else {
			refuses(t, view, d)
		}
	}
	// What is not whole is refused even where the next one begins well.
	for n := 1; n < record; n++ {
		d.RelocsSize = record + n
		refuses(t, view, d)
		d.RelocsSize = n
		refuses(t, view, d)
	}
}

// TestReadCutViews cuts a view at each of its bytes: the table must be within it, whatever is behind.
func TestReadCutViews(t *testing.T) {
	l := []api.Reloc{{At: 0, Kind: word, Symbol: 1}, {At: 1, Kind: base, Add: 5}}
	view, d := within(all(l))
	for n := range len(view) + 1 {
		if n >= d.Relocs+d.RelocsSize {
			tells(t, view[:n], d, l...)
		} else {
			refuses(t, view[:n], d)
		}
	}
}

// TestReadOfAllKinds has kinds with symbols.
func TestReadOfAllKinds(t *testing.T) {
	symbols := []uint32{0, 1, 2, 8, 255, 256, 1 << 16, 1 << 24, 1<<31 - 1, 1 << 31, math.MaxUint32}
	list := []uint32{1 << 8, 1<<8 + 1, 1 << 16, 1<<16 + 8, 1<<24 + 6, 1 << 31, 1<<31 + 1, 1<<31 + 8, math.MaxUint32}
	for kind := range uint32(300) {
		list = append(list, kind)
	}
	for _, kind := range list {
		for _, symbol := range symbols {
			view, d := within(laid(3, kind, symbol, 9))
			may := kind == base && symbol == 0 || (kind == word || kind == data || kind == jump) && symbol > 0
			if may {
				tells(t, view, d, api.Reloc{At: 3, Kind: int(kind), Symbol: int(symbol), Add: 9})
			} else {
				refuses(t, view, d)
			}
			alike(t, view, d)
		}
	}
}

// TestReadOfAllAts has places in and about the view, and those that are below 0 as an int.
func TestReadOfAllAts(t *testing.T) {
	for _, kind := range kinds {
		symbol := uint32(4)
		if kind == base {
			symbol = 0
		}
		asks := func(at uint64) {
			view, d := within(laid(at, uint32(kind), symbol, 9))
			if at <= uint64(len(view)-filled) {
				tells(t, view, d, api.Reloc{At: int(at), Kind: kind, Symbol: int(symbol), Add: 9})
			} else {
				refuses(t, view, d)
			}
		}
		for at := range uint64(100) {
			asks(at)
		}
		for _, n := range edges {
			asks(uint64(n))
		}
		for _, at := range []uint64{1 << 63, 1<<63 + 1, 1<<63 + 8, 1<<32 + 3, 1<<40 + 3, 1<<48 + 3, 1<<56 + 3, math.MaxUint64 - 7, math.MaxUint64 - 8, math.MaxUint64} {
			asks(at)
		}
	}
	// The least view that has a relocation: the last place that may be filled is the last of its own bytes.
	for at := range uint64(40) {
		if ok := alike(t, laid(at, base, 0, 0), api.Dynamic{RelocsSize: record}); ok != (at <= 16) {
			t.Fatalf("a relocation at %d of 24 bytes: %v", at, ok)
		}
	}
}

func TestReadOfAllAdds(t *testing.T) {
	for _, kind := range kinds {
		for _, n := range edges {
			r := api.Reloc{At: 2, Kind: kind, Symbol: 6, Add: int64(n)}
			if kind == base {
				r.Symbol = 0
			}
			view, d := within(laid(2, uint32(kind), uint32(r.Symbol), uint64(n)))
			tells(t, view, d, r)
		}
	}
}

// TestReadOfOneThatMayNotBe has each one of a row be wrong, in each way: then none is told.
func TestReadOfOneThatMayNotBe(t *testing.T) {
	wrong := []string{laid(5, base, 1, 0), laid(5, word, 0, 0), laid(5, data, 0, 0), laid(5, jump, 0, 0), laid(5, 0, 0, 0), laid(5, 2, 1, 0), laid(5, 9, 1, 0), laid(1<<20, base, 0, 0), laid(math.MaxUint64, word, 1, 0)}
	for n := 1; n < 12; n++ {
		for at := range n {
			for _, s := range wrong {
				table := strings.Repeat(laid(5, jump, 7, 0), at) + s + strings.Repeat(laid(6, base, 0, 1), n-at-1)
				view, d := within(table)
				refuses(t, view, d)
				// Those ahead of it, and those behind, are some by themselves.
				ahead, behind := d, d
				ahead.RelocsSize = at * record
				behind.Relocs, behind.RelocsSize = d.Relocs+(at+1)*record, (n-at-1)*record
				if !alike(t, view, ahead) || !alike(t, view, behind) {
					t.Fatalf("of %d relocations the %dth is wrong, and the others are refused", n, at)
				}
			}
		}
	}
}

func TestReadOfMany(t *testing.T) {
	g := draws(111)
	l := make([]api.Reloc, 20000)
	for i := range l {
		l[i] = g.reloc(len(l) * record)
	}
	b := strings.Builder{}
	for _, r := range l {
		b.WriteString(written(r))
	}
	view, d := within(b.String())
	tells(t, view, d, l...)
	refuses(t, view+laid(0, base, 1, 0), api.Dynamic{Relocs: len(view), RelocsSize: record})
}

// TestReadChangedBytes has each byte of a view be each other one.
func TestReadChangedBytes(t *testing.T) {
	view, d := within(all(four()))
	b := []byte(view)
	count := map[bool]int{}
	for at := range b {
		had := b[at]
		for c := range 256 {
			b[at] = byte(c)
			count[alike(t, string(b), d)]++
		}
		b[at] = had
	}
	if count[true] < 5000 || count[false] < 5000 {
		t.Fatalf("too few of one kind: %v", count)
	}
}

func TestReadDrawnTables(t *testing.T) {
	g := draws(112)
	count := map[bool]int{}
	for range 30000 {
		b := strings.Builder{}
		b.WriteString(strings.Repeat(".", g.upTo(30)))
		d := api.Dynamic{Relocs: b.Len(), RelocsSize: record * g.upTo(6)}
		for range d.RelocsSize / record {
			r := g.reloc(filled + g.upTo(60))
			switch g.upTo(12) {
			case 0:
				r.Kind = g.upTo(10)
			case 1:
				r.Symbol = g.upTo(2)
			case 2:
				r.At = g.upTo(300)
			}
			b.WriteString(written(r))
		}
		b.WriteString(strings.Repeat("\x01", g.upTo(30)))
		switch g.upTo(12) {
		case 0:
			d.Relocs += g.upTo(60) - 30
		case 1:
			d.RelocsSize += g.upTo(60) - 30
		case 2:
			d.RelocsSize += record * (g.upTo(3) - 1)
		}
		count[alike(t, b.String(), d)]++
	}
	if count[true] < 5000 || count[false] < 5000 {
		t.Fatalf("too few of one kind were drawn: %v", count)
	}
}

// P11.2

func TestValueExamples(t *testing.T) {
	for _, c := range []struct {
		r            api.Reloc
		base, symbol int
		want         uint64
		ok           bool
	}{
		{api.Reloc{Kind: base, Add: 16}, 4096, 0, 4112, true},
		{api.Reloc{Kind: word, Add: -1}, 0, 70, 69, true},
		{api.Reloc{Kind: word, Add: -1}, 4096, 70, 69, true},
		{api.Reloc{Kind: base, Add: 16}, 4096, 70, 4112, true},
		{api.Reloc{Kind: data, Add: 16}, 4096, 70, 70, true},
		{api.Reloc{Kind: jump, Add: 16}, 4096, 70, 70, true},
		{api.Reloc{Kind: word, Add: -71}, 0, 70, math.MaxUint64, true},
		{api.Reloc{Kind: base, Add: -1}, 0, 70, math.MaxUint64, true},
		{api.Reloc{Kind: word, Add: math.MaxInt64}, 0, math.MaxInt, math.MaxUint64 - 1, true},
		{api.Reloc{Kind: word, Add: math.MinInt64}, 0, math.MinInt, 0, true},
		{api.Reloc{Kind: base, Add: math.MinInt64}, math.MinInt, 0, 0, true},
		{api.Reloc{Kind: data}, 0, -1, math.MaxUint64, true},
		{api.Reloc{Kind: jump}, 0, math.MinInt, 1 << 63, true},
		{api.Reloc{Kind: 0, Add: 16}, 4096, 70, 0, false},
		{api.Reloc{Kind: 9, Add: 16}, 4096, 70, 0, false},
	} {
		if got, ok := reloc.Value(c.r, c.base, c.symbol); got != c.want || ok != c.ok {
			t.Errorf("Value(%v, %d, %d): %x %v, want %x %v", c.r, c.base, c.symbol, got, ok, c.want, c.ok)
		}
	}
}

// sum is a value with numbers that have no end, cut at 2^64.
func sum(l ...int) uint64 {
	n := new(big.Int)
	for _, m := range l {
		n.Add(n, big.NewInt(int64(m)))
	}
	return n.Mod(n, new(big.Int).Lsh(big.NewInt(1), 64)).Uint64()
}

func TestValueAtEdges(t *testing.T) {
	for _, from := range edges {
		for _, symbol := range edges {
			for _, add := range edges {
				for kind, want := range map[int]uint64{word: sum(symbol, add), data: sum(symbol), jump: sum(symbol), base: sum(from, add)} {
					if got, ok := reloc.Value(api.Reloc{Kind: kind, Add: int64(add)}, from, symbol); got != want || !ok {
						t.Fatalf("Value of kind %d, %d added, %d, %d: %x %v, want %x", kind, add, from, symbol, got, ok, want)
					}
				}
			}
		}
	}
}

// TestOtherKinds asks of kinds that there aren't.
func TestOtherKinds(t *testing.T) {
	for _, kind := range others {
		for _, n := range edges {
			r := api.Reloc{At: n, Kind: kind, Symbol: n, Add: int64(n)}
			if got, ok := reloc.Value(r, n, 70); got != 0 || ok {
				t.Fatalf("Value(%v, %d, 70): %x %v", r, n, got, ok)
			}
			if got, ok := reloc.Value(r, 4096, n); got != 0 || ok {
				t.Fatalf("Value(%v, 4096, %d): %x %v", r, n, got, ok)
			}
			if reloc.Asks(r) {
				t.Fatalf("%v asks for a symbol", r)
			}
			if got := reloc.Shift(r); got != 0 {
				t.Fatalf("Shift(%v): %d", r, got)
			}
		}
	}
}

// TestAsksAndShift has relocations of all kinds; their other numbers have no part in it.
func TestAsksAndShift(t *testing.T) {
	for kind := -300; kind < 300; kind++ {
		for _, n := range edges {
			r := api.Reloc{At: n, Kind: kind, Symbol: n, Add: int64(n)}
			if got, want := reloc.Asks(r), kind == 1 || kind == 6 || kind == 7; got != want {
				t.Fatalf("Asks(%v): %v", r, got)
			}
			want := 0
			if kind == 1 || kind == 6 || kind == 7 || kind == 8 {
				want = 1
			}
			if got := reloc.Shift(r); got != want {
				t.Fatalf("Shift(%v): %d, want %d", r, got, want)
			}
			if _, ok := reloc.Value(r, n, n); ok != (want == 1) {
				t.Fatalf("Value(%v): %v", r, ok)
			}
		}
	}
}

// TestValueAsksNoMore has numbers that may not be in a view: the value is told by the kind alone.
func TestValueAsksNoMore(t *testing.T) {
	for _, n := range edges {
		for kind, want := range map[int]uint64{word: 73, data: 70, jump: 70, base: 4099} {
			r := api.Reloc{At: n, Kind: kind, Symbol: n, Add: 3}
			if got, ok := reloc.Value(r, 4096, 70); got != want || !ok {
				t.Fatalf("Value(%v, 4096, 70): %d %v, want %d", r, got, ok, want)
			}
		}
	}
}

// P11.3

func TestWhatWasWrittenIsRead(t *testing.T) {
	g := draws(113)
	for range 5000 {
		l := make([]api.Reloc, g.upTo(20))
		view := strings.Repeat(".", filled+g.upTo(90))
		d := api.Dynamic{Relocs: len(view), RelocsSize: len(l) * record}
		for i := range l {
			l[i] = g.reloc(len(view) + len(l)*record)
		}
		for _, r := range l {
			s := reloc.Bytes(r)
			if len(s) != record {
				t.Fatalf("Bytes(%v) has %d bytes", r, len(s))
			}
			view += s
		}
		tells(t, view, d, l...)
		tells(t, view+"behind", d, l...)
		again := ""
		read, _ := reloc.Read(view, d)
		for _, r := range read {
			again += reloc.Bytes(r)
		}
		if again != view[d.Relocs:] {
			t.Fatalf("%x was read, and %x is written", view[d.Relocs:], again)
		}
	}
}

// TestWhatGoesUp has all go up by as much, below 0 and round 2^64 too.
func TestWhatGoesUp(t *testing.T) {
	for _, kind := range append(slices.Clone(kinds), others...) {
		for _, from := range edges {
			for _, symbol := range []int{math.MinInt, -1, 0, 70, 4096, math.MaxInt} {
				for _, up := range edges {
					r := api.Reloc{At: 5, Kind: kind, Symbol: 3, Add: int64(from - symbol)}
					was, ok := reloc.Value(r, from, symbol)
					is, still := reloc.Value(r, from+up, symbol+up)
					if is != was+uint64(up)*uint64(reloc.Shift(r)) || ok != still {
						t.Fatalf("Value(%v, %d, %d) is %x, and where all goes up by %d: %x", r, from, symbol, was, up, is)
					}
				}
			}
		}
	}
}

// TestWhatGoesUpByItself has only the base go up, or only the symbol: only values that are meant there do.
func TestWhatGoesUpByItself(t *testing.T) {
	for _, up := range edges {
		for _, r := range four() {
			was, _ := reloc.Value(r, 4096, 70)
			based, _ := reloc.Value(r, 4096+up, 70)
			meant, _ := reloc.Value(r, 4096, 70+up)
			if reloc.Asks(r) {
				based, meant = meant, based
			}
			if based != was+uint64(up) || meant != was {
				t.Fatalf("Value of %v goes up by %d, and %d, not by %d", r, based-was, meant-was, up)
			}
		}
	}
}

// R3

func TestWhatIsHandedInStays(t *testing.T) {
	view, d := within(all(four()))
	d.Needed = append(make([]int, 0, 4), 5, 6)
	reloc.Read(view, d)
	if !slices.Equal(d.Needed[:4], []int{5, 6, 0, 0}) {
		t.Fatal("what was handed in has changed")
	}
}

func TestWhatIsToldIsItsOwners(t *testing.T) {
	view, d := within(all(four()))
	a, _ := reloc.Read(view, d)
	b, _ := reloc.Read(view, d)
	a[0] = api.Reloc{At: 99}
	a = append(a[:2], api.Reloc{At: 99})
	if !slices.Equal(b, four()) || a[2].At != 99 {
		t.Fatal("what was told has changed")
	}
	tells(t, view, d, four()...)
}

// P1

func TestNothingPanics(t *testing.T) {
	view, d := within(all(four()))
	for _, n := range edges {
		for _, m := range edges {
			for _, v := range []string{view, "", "\x00", strings.Repeat("\xff", 100), strings.Repeat("\x00", 100), strings.Repeat("\x01\x00\x00\x00", 40)} {
				alike(t, v, api.Dynamic{Relocs: n, RelocsSize: m})
				alike(t, v, api.Dynamic{Relocs: d.Relocs, RelocsSize: m})
				alike(t, v, api.Dynamic{Relocs: n, RelocsSize: d.RelocsSize})
			}
			for _, kind := range append(slices.Clone(kinds), n) {
				r := api.Reloc{At: n, Kind: kind, Symbol: m, Add: int64(m)}
				reloc.Bytes(r)
				reloc.Value(r, n, m)
				reloc.Asks(r)
				reloc.Shift(r)
			}
		}
	}
	g := draws(114)
	for range 20000 {
		b := make([]byte, g.upTo(150))
		for range g.upTo(60) {
			if len(b) > 0 {
				b[g.upTo(len(b))] = byte(g.upTo(9))
			}
		}
		alike(t, string(b), api.Dynamic{Relocs: g.upTo(40), RelocsSize: record * g.upTo(5)})
	}
}
