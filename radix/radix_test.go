package radix_test

import (
	"math"
	"slices"
	"testing"

	"flyleaf/api"
	"flyleaf/frames"
	"flyleaf/radix"
)

// The numbers are written out: a test that asked api for them would follow it if it were wrong.
const (
	levels   = 4
	fan      = 8
	pages    = 4096
	greatest = 1 << 20
	// all is how many frames a table takes whose pages all have entries.
	all = 1 + 8 + 64 + 512
)

// noPages are numbers of int that are no page's; with a few taken off, or taken as 32 bits, some of them wrap round to one.
var noPages = []int{
	math.MinInt, math.MinInt + 1, math.MinInt + pages, -1 << 32, math.MinInt32, -pages - 1, -pages, -pages + 1, -513, -512, -9, -8, -7, -2, -1,
	pages, pages + 1, pages + 7, 2*pages - 1, 2 * pages, 1 << 15, 1 << 16, 1 << 32, 1<<32 + 1, 1 << 62, math.MaxInt - pages, math.MaxInt - 1, math.MaxInt,
}

// somePages are the first and last ones of tables of all levels.
var somePages = []int{0, 1, 7, 8, 9, 63, 64, 65, 71, 72, 511, 512, 513, 575, 576, 1023, 1024, 2047, 2048, 3583, 3584, 4031, 4032, 4087, 4088, 4094, 4095}

// entry is one that may be; another one for each of the first 2^20 numbers.
func entry(n int) api.Slot {
	s := api.Slot{Here: n%2 == 0, Out: n%2 == 1, N: n % (greatest + 1)}
	switch n / 2 % 3 {
	case 1:
		s.Write = true
	case 2:
		s.Copy = true
	}
	return s
}

// noEntries are entries that may not be.
func noEntries() []api.Slot {
	l := []api.Slot{}
	for _, n := range []int{math.MinInt, -1 << 60, -1 << 32, -greatest, -16, -1, greatest + 1, greatest + 16, 1 << 32, 1 << 59, 1 << 60, 1<<60 + 1, math.MaxInt} {
		l = append(l, api.Slot{Here: true, N: n}, api.Slot{Out: true, N: n}, api.Slot{N: n}, api.Slot{Here: true, Write: true, N: n})
	}
	for _, n := range []int{0, 1, 77, greatest} {
		for bits := range 16 {
			if s := flags(bits, n); !may(s) {
				l = append(l, s)
			}
		}
	}
	return l
}

// flags is what four bits say of an entry, and its number.
func flags(bits, n int) api.Slot {
	return api.Slot{Here: bits%2 == 1, Write: bits/2%2 == 1, Copy: bits/4%2 == 1, Out: bits/8%2 == 1, N: n}
}

// may tells, as the document says it, whether an entry may be.
func may(s api.Slot) bool {
	if s.N < 0 || s.N > greatest || s.Write && s.Copy {
		return false
	}
	return s.Here && !s.Out || s.Out && !s.Here
}

// packed is an entry's bits, as the document says them.
func packed(s api.Slot) uint64 {
	bits := uint64(s.N) * 16
	if s.Here {
		bits += 1
	}
	if s.Write {
		bits += 2
	}
	if s.Copy {
		bits += 4
	}
	if s.Out {
		bits += 8
	}
	return bits
}

// pool is one of n frames, of which just so many are free: the last ones.
func pool(t *testing.T, n, free int) *frames.Pool {
	t.Helper()
	p := frames.New(n)
	for range n - free {
		if _, err := p.Take(); err != api.OK {
			t.Fatalf("Take: %d", err)
		}
	}
	return p
}

// made is a table in a pool.
func made(t *testing.T, p *frames.Pool) *radix.Table {
	t.Helper()
	x, err := radix.New(p)
	if x == nil || err != api.OK {
		t.Fatalf("New: %v %d", x, err)
	}
	return x
}

// table is one that has a pool of its own, with room for all pages.
func table(t *testing.T) (*radix.Table, *frames.Pool) {
	t.Helper()
	p := frames.New(all)
	return made(t, p), p
}

// sets sets a page's entry.
func sets(t *testing.T, x *radix.Table, page int, s api.Slot) {
	t.Helper()
	if err := x.Set(page, s); err != api.OK {
		t.Fatalf("Set(%d, %v): %d", page, s, err)
	}
}

// fails asks that an entry can't be set, with that error.
func fails(t *testing.T, x *radix.Table, page int, s api.Slot, want api.Errno) {
	t.Helper()
	if err := x.Set(page, s); err != want {
		t.Fatalf("Set(%d, %v): %d, want %d", page, s, err, want)
	}
}

// gets asks a page's entry.
func gets(t *testing.T, x *radix.Table, page int, want api.Slot) {
	t.Helper()
	if s, err := x.Get(page); s != want || err != api.OK {
		t.Fatalf("Get(%d): %v %d, want %v 0", page, s, err, want)
	}
}

// drops drops a page's entry, and asks which one it was.
func drops(t *testing.T, x *radix.Table, page int, want api.Slot) {
	t.Helper()
	if s, err := x.Drop(page); s != want || err != api.OK {
		t.Fatalf("Drop(%d): %v %d, want %v 0", page, s, err, want)
	}
}

// none asks that a page's entry is neither told nor dropped, with that error.
func none(t *testing.T, x *radix.Table, page int, want api.Errno) {
	t.Helper()
	if s, err := x.Get(page); s != (api.Slot{}) || err != want {
		t.Fatalf("Get(%d): %v %d, want %d", page, s, err, want)
	}
	if s, err := x.Drop(page); s != (api.Slot{}) || err != want {
		t.Fatalf("Drop(%d): %v %d, want %d", page, s, err, want)
	}
}

// from asks which page is the first one from some page on.
func from(t *testing.T, x *radix.Table, page int, want api.Spot, there bool) {
	t.Helper()
	if s, ok := x.From(page); s != want || ok != there {
		t.Fatalf("From(%d): %v %v, want %v %v", page, s, ok, want, there)
	}
}

// sizes asks how many frames the tables take, and how many are free.
func sizes(t *testing.T, x *radix.Table, p *frames.Pool, nodes, free int) {
	t.Helper()
	if x.Nodes() != nodes || p.Free() != free {
		t.Fatalf("Nodes, Free: %d, %d, want %d, %d", x.Nodes(), p.Free(), nodes, free)
	}
}

// model is a table as a plain map.
type model map[int]api.Slot

// spots is what the model has, rising.
func (m model) spots() []api.Spot {
	l := []api.Spot{}
	for page := range pages {
		if s, ok := m[page]; ok {
			l = append(l, api.Spot{Page: page, Slot: s})
		}
	}
	return l
}

// nodes is how many tables the model's pages need.
func (m model) nodes() int {
	type part struct{ level, digits int }
	parts := map[part]int{{0, 0}: 1}
	for page := range m {
		for level := 1; level < levels; level++ {
			page /= fan
			parts[part{levels - level, page}] = 1
		}
	}
	return len(parts)
}

// same asks that a table has what the model has.
func same(t *testing.T, x *radix.Table, m model) {
	t.Helper()
	want := m.spots()
	if got := x.All(); !slices.Equal(got, want) {
		t.Fatalf("All: %v, want %v", got, want)
	}
	if got := x.Nodes(); got != m.nodes() {
		t.Fatalf("Nodes: %d, want %d", got, m.nodes())
	}
}

// alike asks of each page by itself, and of the first one from it on, whether a table has what the model has.
func alike(t *testing.T, x *radix.Table, m model) {
	t.Helper()
	same(t, x, m)
	next, there := api.Spot{}, false
	for page := pages - 1; page >= 0; page-- {
		if s, ok := m[page]; ok {
			gets(t, x, page, s)
			next, there = api.Spot{Page: page, Slot: s}, true
		} else {
			none(t, x, page, api.ErrNone)
		}
		from(t, x, page, next, there)
	}
	for _, page := range noPages {
		if page < 0 {
			from(t, x, page, next, there)
		} else {
			from(t, x, page, api.Spot{}, false)
		}
	}
}

// with is a table with the entries of some pages, and its model.
func with(t *testing.T, l ...int) (*radix.Table, *frames.Pool, model) {
	t.Helper()
	x, p := table(t)
	m := model{}
	for _, page := range l {
		m[page] = entry(page + 5)
		sets(t, x, page, m[page])
	}
	return x, p, m
}

func TestLimits(t *testing.T) {
	if api.Levels != levels || api.Fan != fan || api.MaxPages != pages {
		t.Fatalf("Levels %d, Fan %d, MaxPages %d", api.Levels, api.Fan, api.MaxPages)
	}
}

// P7.1

func TestPackExamples(t *testing.T) {
	for _, c := range []struct {
		s    api.Slot
		want uint64
	}{
		{api.Slot{Here: true}, 1},
		{api.Slot{Out: true}, 8},
		{api.Slot{Here: true, Write: true}, 3},
		{api.Slot{Here: true, Copy: true}, 5},
		{api.Slot{Out: true, Write: true}, 10},
		{api.Slot{Out: true, Copy: true}, 12},
		{api.Slot{Here: true, N: 1}, 17},
		{api.Slot{Here: true, Write: true, N: 4095}, 65523},
		{api.Slot{Out: true, N: 1 << 20}, 1<<24 + 8},
		{api.Slot{}, 0},
		{api.Slot{Write: true}, 0},
		{api.Slot{Copy: true, N: 3}, 0},
		{api.Slot{N: 3}, 0},
		{api.Slot{Here: true, Out: true}, 0},
		{api.Slot{Here: true, Write: true, Copy: true}, 0},
		{api.Slot{Out: true, Write: true, Copy: true}, 0},
		{api.Slot{Here: true, N: -1}, 0},
		{api.Slot{Here: true, N: 1<<20 + 1}, 0},
		{api.Slot{Here: true, N: 1 << 60}, 0},
	} {
		if got := radix.Pack(c.s); got != c.want {
			t.Errorf("Pack(%v): %x, want %x", c.s, got, c.want)
		}
	}
}

func TestPackAndUnpack(t *testing.T) {
	for _, n := range []int{0, 1, 2, 15, 16, 255, 256, 4095, 4096, 65535, 1<<19 + 1, greatest - 1, greatest} {
		for bits := range 16 {
			s, want := flags(bits, n), uint64(0)
			if may(s) {
				want = packed(s)
			}
			if got := radix.Pack(s); got != want {
				t.Errorf("Pack(%v): %x, want %x", s, got, want)
			}
			if !may(s) {
				s = api.Slot{}
			}
			if got := radix.Unpack(uint64(n*16 + bits)); got != s {
				t.Errorf("Unpack(%x): %v, want %v", n*16+bits, got, s)
			}
		}
	}
	for _, s := range noEntries() {
		if got := radix.Pack(s); got != 0 {
			t.Errorf("Pack(%v): %x, want 0", s, got)
		}
	}
}

func TestUnpackOfNoEntry(t *testing.T) {
	for _, n := range []uint64{greatest + 1, greatest + 2, 2 * greatest, 1 << 27, 1 << 28, 1 << 32, 1<<32 + 5, 1 << 58, 1 << 59, 1<<60 - 1} {
		for bits := range uint64(16) {
			if got := radix.Unpack(n<<4 | bits); got != (api.Slot{}) {
				t.Errorf("Unpack(%x): %v, want nothing", n<<4|bits, got)
			}
		}
	}
	for bit := 25; bit < 64; bit++ {
		for low := range uint64(64) {
			if got := radix.Unpack(1<<bit | low); got != (api.Slot{}) {
				t.Errorf("Unpack(%x): %v, want nothing", uint64(1)<<bit|low, got)
			}
		}
	}
}

// P7.2

func TestNew(t *testing.T) {
	for _, n := range []int{1, 2, 3, 585, 4096} {
		p := frames.New(n)
		x := made(t, p)
		sizes(t, x, p, 1, n-1)
		if p.Held(0) != 1 {
			t.Errorf("the root is held %d times", p.Held(0))
		}
		alike(t, x, model{})
	}
}

func TestNewTakesAFreeFrame(t *testing.T) {
	p := pool(t, 4, 0)
	p.Hold(1)
	p.Drop(2)
	x := made(t, p)
	sizes(t, x, p, 1, 0)
	for f, want := range []int{1, 2, 1, 1} {
		if p.Held(f) != want {
			t.Errorf("frame %d is held %d times, want %d", f, p.Held(f), want)
		}
	}
	none(t, x, 0, api.ErrNone)
}

func TestNewWithoutRoom(t *testing.T) {
	for _, p := range []*frames.Pool{pool(t, 1, 0), pool(t, 9, 0), new(frames.Pool)} {
		if x, err := radix.New(p); x != nil || err != api.ErrMem {
			t.Errorf("New without a free frame: %v %d, want ErrMem", x, err)
		}
	}
	if x, err := radix.New(nil); x != nil || err != api.ErrArg {
		t.Errorf("New(nil): %v %d, want ErrArg", x, err)
	}
}

func TestExample(t *testing.T) {
	p := frames.New(8)
	x := made(t, p)
	sets(t, x, 0, entry(2))
	sizes(t, x, p, 4, 4)
	sets(t, x, 4095, entry(3))
	sizes(t, x, p, 7, 1)
	drops(t, x, 0, entry(2))
	sizes(t, x, p, 4, 4)
	drops(t, x, 4095, entry(3))
	sizes(t, x, p, 1, 7)
}

func TestSetAndGet(t *testing.T) {
	for _, page := range somePages {
		x, p, m := with(t)
		for _, n := range []int{0, 1, 2, 3, 4, 5, 4095, greatest - 1, greatest} {
			for bits := range 16 {
				s := flags(bits, n)
				if !may(s) {
					continue
				}
				m[page] = s
				sets(t, x, page, s)
				gets(t, x, page, s)
				sizes(t, x, p, levels, all-levels)
			}
		}
		same(t, x, m)
	}
}

// TestTables asks what stands in the frames. In base 8 a page's digits are to be seen.
func TestTables(t *testing.T) {
	p := frames.New(8)
	x := made(t, p)
	sets(t, x, 01234, entry(9))
	sets(t, x, 01267, entry(10))
	want := map[[2]int]uint64{
		{0, 1}: 1<<4 + 1, {1, 2}: 2<<4 + 1, {2, 3}: 3<<4 + 1, {3, 4}: packed(entry(9)),
		{2, 6}: 4<<4 + 1, {4, 7}: packed(entry(10)),
	}
	for f := range 5 {
		for digit := range fan {
			if bits, err := p.Load(f, 8*digit, api.U64); bits != want[[2]int{f, digit}] || err != api.OK {
				t.Errorf("entry %d of frame %d: %x %d, want %x", digit, f, bits, err, want[[2]int{f, digit}])
			}
		}
		if p.Held(f) != 1 {
			t.Errorf("frame %d is held %d times", f, p.Held(f))
		}
	}
	sizes(t, x, p, 5, 3)
}

func TestTablesAreSharedByPages(t *testing.T) {
	for _, c := range []struct{ a, b, nodes int }{
		{0, 1, 4}, {0, 7, 4}, {0, 8, 5}, {0, 63, 5}, {0, 64, 6}, {0, 511, 6}, {0, 512, 7}, {0, 4095, 7},
		{4088, 4095, 4}, {4087, 4088, 5}, {4031, 4032, 6}, {3583, 3584, 7}, {2047, 2048, 7}, {5, 5, 4},
	} {
		for range 2 {
			x, p, m := with(t, c.a, c.b)
			sizes(t, x, p, c.nodes, all-c.nodes)
			alike(t, x, m)
			c.a, c.b = c.b, c.a
		}
	}
}

func TestAllPages(t *testing.T) {
	x, p, m := with(t)
	for page := range pages {
		// 2731 and 4096 have no common divisor: so each page comes once.
		at := page * 2731 % pages
		m[at] = entry(at + 1)
		sets(t, x, at, m[at])
	}
	sizes(t, x, p, all, 0)
	alike(t, x, m)
	for page := range pages {
		at := page * 1365 % pages
		drops(t, x, at, m[at])
		none(t, x, at, api.ErrNone)
		delete(m, at)
		if page%256 == 0 {
			same(t, x, m)
		}
	}
	sizes(t, x, p, 1, all-1)
	alike(t, x, m)
}

func TestSetOfNoPage(t *testing.T) {
	x, p, m := with(t, 0, 9, 4095)
	for _, page := range noPages {
		none(t, x, page, api.ErrRange)
		fails(t, x, page, entry(1), api.ErrRange)
		// That there is no such page is told ahead of there being no such entry.
		for _, s := range noEntries() {
			fails(t, x, page, s, api.ErrRange)
		}
	}
	sizes(t, x, p, m.nodes(), all-m.nodes())
	alike(t, x, m)
}

func TestSetOfNoEntry(t *testing.T) {
	x, p, m := with(t, 8)
	for _, page := range []int{8, 9, 16, 64, 512, 4095} {
		for _, s := range noEntries() {
			fails(t, x, page, s, api.ErrArg)
		}
	}
	sizes(t, x, p, 4, all-4)
	alike(t, x, m)
	// That the entry may not be is told ahead of there being no room.
	p = pool(t, 4, 1)
	x = made(t, p)
	for _, s := range noEntries() {
		fails(t, x, 0, s, api.ErrArg)
	}
	sizes(t, x, p, 1, 0)
}

// bytes is what each frame of a pool has, and how often it is held.
func bytes(p *frames.Pool) []string {
	l := []string{}
	for f := range p.Frames() {
		s, _ := p.Bytes(f)
		l = append(l, s+string(rune('0'+p.Held(f))))
	}
	return l
}

func TestSetWithoutRoom(t *testing.T) {
	// Behind page 0 each of these pages needs so many further tables.
	needs := map[int]int{1: 0, 7: 0, 8: 1, 63: 1, 64: 2, 511: 2, 512: 3, 4095: 3}
	for page, need := range needs {
		for free := range 6 {
			p := pool(t, 20, 4+free)
			x := made(t, p)
			sets(t, x, 0, entry(4))
			m := model{0: entry(4)}
			was := bytes(p)
			if free < need {
				for range 3 {
					fails(t, x, page, entry(6), api.ErrMem)
					if !slices.Equal(bytes(p), was) {
						t.Fatalf("frames of page %d: %q, want %q", page, bytes(p), was)
					}
				}
				sizes(t, x, p, 4, free)
				alike(t, x, m)
				// With as many frames as it needs it is set.
				for f := range need - free {
					p.Drop(f)
				}
				free = need
			}
			sets(t, x, page, entry(6))
			m[page] = entry(6)
			sizes(t, x, p, 4+need, free-need)
			alike(t, x, m)
		}
	}
}

func TestSetOfAFullPool(t *testing.T) {
	p := pool(t, 4, 4)
	x := made(t, p)
	sets(t, x, 4095, entry(4))
	for page := 4088; page < pages; page++ {
		sets(t, x, page, entry(page))
	}
	fails(t, x, 4087, entry(1), api.ErrMem)
	fails(t, x, 0, entry(1), api.ErrMem)
	for page := 4088; page < pages; page++ {
		drops(t, x, page, entry(page))
	}
	sizes(t, x, p, 1, 3)
	// The tables of a page that isn't there any more are another one's now, and clear.
	sets(t, x, 0, entry(1))
	alike(t, x, model{0: entry(1)})
}

func TestTablesAreTakenFromTheRootDown(t *testing.T) {
	p := pool(t, 9, 0)
	for _, f := range []int{1, 3, 4, 8} {
		p.Drop(f)
	}
	x := made(t, p)
	sets(t, x, 0, entry(0))
	for i, f := range []int{1, 3, 4} {
		want := uint64([]int{3, 4, 8}[i])<<4 + 1
		if bits, _ := p.Load(f, 0, api.U64); bits != want {
			t.Errorf("frame %d says %x, want %x", f, bits, want)
		}
	}
}

func TestDropGivesTablesBack(t *testing.T) {
	for _, page := range []int{1, 8, 64, 512, 4095} {
		x, p, m := with(t, 0, page)
		drops(t, x, page, m[page])
		none(t, x, page, api.ErrNone)
		delete(m, page)
		sizes(t, x, p, levels, all-levels)
		alike(t, x, m)
		drops(t, x, 0, m[0])
		none(t, x, 0, api.ErrNone)
		sizes(t, x, p, 1, all-1)
		if p.Held(0) != 1 {
			t.Errorf("the root is held %d times", p.Held(0))
		}
		alike(t, x, model{})
		sets(t, x, page, entry(3))
		alike(t, x, model{page: entry(3)})
	}
}

func TestDropLeavesTablesWithEntries(t *testing.T) {
	x, p, m := with(t, 0, 1, 8, 64, 512)
	for _, c := range []struct{ page, nodes int }{{0, 10}, {1, 9}, {8, 7}, {64, 4}, {512, 1}} {
		drops(t, x, c.page, m[c.page])
		delete(m, c.page)
		sizes(t, x, p, c.nodes, all-c.nodes)
		alike(t, x, m)
	}
}

func TestEntriesFramesAreNotTheTables(t *testing.T) {
	p := frames.New(9)
	f, _ := p.Take()
	x := made(t, p)
	s := api.Slot{Here: true, Write: true, N: f}
	sets(t, x, 0, s)
	sets(t, x, 1, s)
	sets(t, x, 1, entry(7))
	drops(t, x, 0, s)
	sets(t, x, 3, s)
	x.Close()
	if p.Held(f) != 1 || p.Free() != 8 {
		t.Errorf("Held, Free: %d, %d, want 1, 8", p.Held(f), p.Free())
	}
}

// P7.3

func TestAllAndFrom(t *testing.T) {
	for _, l := range [][]int{{}, {0}, {4095}, {7, 8}, {0, 4095}, {63, 64, 65}, {511, 512}, {4088, 0, 17, 513, 512, 9}, somePages} {
		x, p, m := with(t, l...)
		alike(t, x, m)
		sizes(t, x, p, m.nodes(), all-m.nodes())
	}
}

func TestEveryPageByItself(t *testing.T) {
	x, p := table(t)
	for page := range pages {
		s := entry(page)
		sets(t, x, page, s)
		gets(t, x, page, s)
		from(t, x, 0, api.Spot{Page: page, Slot: s}, true)
		from(t, x, page, api.Spot{Page: page, Slot: s}, true)
		from(t, x, page+1, api.Spot{}, false)
		if got := x.All(); len(got) != 1 || got[0] != (api.Spot{Page: page, Slot: s}) {
			t.Fatalf("All: %v", got)
		}
		drops(t, x, page, s)
	}
	sizes(t, x, p, 1, all-1)
}

// closed asks a table that is closed.
func closed(t *testing.T, x *radix.Table) {
	t.Helper()
	for range 2 {
		for _, page := range somePages {
			none(t, x, page, api.ErrState)
			fails(t, x, page, entry(2), api.ErrState)
			// That it is closed is told ahead of there being no such entry.
			fails(t, x, page, api.Slot{}, api.ErrState)
			from(t, x, page, api.Spot{}, false)
		}
		for _, page := range noPages {
			// That there is no such page is told ahead of its being closed.
			none(t, x, page, api.ErrRange)
			fails(t, x, page, entry(2), api.ErrRange)
			from(t, x, page, api.Spot{}, false)
		}
		told(t, x)
	}
}

// told asks that a table tells nothing.
func told(t *testing.T, x *radix.Table) {
	t.Helper()
	if l, n := x.All(), x.Nodes(); len(l) != 0 || n != 0 {
		t.Fatalf("All, Nodes: %v, %d", l, n)
	}
	if l := x.Close(); len(l) != 0 {
		t.Fatalf("Close: %v", l)
	}
}

func TestClose(t *testing.T) {
	for _, l := range [][]int{{}, {0}, {4095}, {0, 4095}, {4088, 0, 17, 513, 512, 9}, somePages} {
		x, p, m := with(t, l...)
		if got, want := x.Close(), m.spots(); !slices.Equal(got, want) {
			t.Errorf("Close: %v, want %v", got, want)
		}
		if p.Free() != all {
			t.Errorf("Free: %d, want %d", p.Free(), all)
		}
		// What the pool has from then on is not the table's.
		for range all {
			p.Take()
		}
		closed(t, x)
		for f := range all {
			if p.Held(f) != 1 {
				t.Errorf("frame %d is held %d times", f, p.Held(f))
			}
		}
	}
}

func TestCloseLeavesOtherFrames(t *testing.T) {
	p := pool(t, 40, 30)
	x, y := made(t, p), made(t, p)
	for _, page := range []int{0, 512, 4095} {
		sets(t, x, page, entry(page))
		sets(t, y, page, entry(page+1))
	}
	x.Close()
	sizes(t, y, p, 10, 20)
	for f := range 10 {
		if p.Held(f) != 1 {
			t.Errorf("frame %d is held %d times", f, p.Held(f))
		}
	}
	alike(t, y, model{0: entry(1), 512: entry(513), 4095: entry(4096)})
	closed(t, x)
	// A table that is made in the same frames has nothing of the one that was closed.
	z := made(t, p)
	alike(t, z, model{})
	sizes(t, z, p, 1, 19)
}

func TestWhatIsToldIsItsOwners(t *testing.T) {
	x, _, m := with(t, 3, 9, 700)
	first := x.All()
	copied := slices.Clone(first)
	sets(t, x, 3, entry(100))
	sets(t, x, 4, entry(101))
	drops(t, x, 9, m[9])
	if !slices.Equal(first, copied) {
		t.Errorf("told ahead: %v, want %v", first, copied)
	}
	for i := range first {
		first[i] = api.Spot{Page: 1, Slot: entry(0)}
	}
	m[3], m[4] = entry(100), entry(101)
	delete(m, 9)
	alike(t, x, m)
	last := x.Close()
	x.Close()
	if !slices.Equal(last, m.spots()) {
		t.Errorf("Close told %v, want %v", last, m.spots())
	}
}

// P7.4

// draws tells numbers below a bound, the same ones each time.
func draws(seed uint64) func(below int) int {
	return func(below int) int {
		seed = seed*6364136223846793005 + 1442695040888963407
		return int(seed >> 33 % uint64(below))
	}
}

// pageOf draws a page; mostly one near others, and now and then none.
func pageOf(draw func(int) int) int {
	switch draw(12) {
	case 0:
		return draw(pages)
	case 1:
		return noPages[draw(len(noPages))]
	case 2, 3, 4:
		return somePages[draw(len(somePages))]
	}
	return draw(3)*512 + draw(2)*64 + draw(20)
}

// step is one call of a table and of its model, with so many frames free for both.
func step(t *testing.T, draw func(int) int, x *radix.Table, m model, free int) {
	t.Helper()
	page := pageOf(draw)
	was, there := m[page]
	want := api.OK
	if page < 0 || page >= pages {
		want = api.ErrRange
	}
	switch draw(3) {
	case 0:
		s := entry(draw(greatest))
		if draw(8) == 0 {
			l := noEntries()
			s = l[draw(len(l))]
		}
		if want == api.OK && !may(s) {
			want = api.ErrArg
		}
		if want == api.OK {
			nodes := m.nodes()
			m[page] = s
			if m.nodes()-nodes > free {
				want = api.ErrMem
				delete(m, page)
			}
		}
		fails(t, x, page, s, want)
	case 1:
		if want == api.OK && !there {
			want = api.ErrNone
		}
		if s, err := x.Drop(page); s != was || err != want {
			t.Fatalf("Drop(%d): %v %d, want %v %d", page, s, err, was, want)
		}
		delete(m, page)
	default:
		if want == api.OK && !there {
			want = api.ErrNone
		}
		if s, err := x.Get(page); s != was || err != want {
			t.Fatalf("Get(%d): %v %d, want %v %d", page, s, err, was, want)
		}
	}
}

func TestLockstep(t *testing.T) {
	for seed := range 40 {
		draw := draws(uint64(seed))
		n := 1 + draw(40)
		p := pool(t, n+3, n)
		x, m := made(t, p), model{}
		for range 300 {
			step(t, draw, x, m, p.Free())
			same(t, x, m)
			sizes(t, x, p, m.nodes(), n-m.nodes())
		}
		alike(t, x, m)
	}
}

func TestTablesAreApart(t *testing.T) {
	const n = 60
	draw := draws(77)
	p := frames.New(n)
	tables, models := []*radix.Table{}, []model{}
	for range 3 {
		tables = append(tables, made(t, p))
		models = append(models, model{})
	}
	for range 2000 {
		i := draw(3)
		if draw(40) == 0 {
			if got, want := tables[i].Close(), models[i].spots(); !slices.Equal(got, want) {
				t.Fatalf("Close: %v, want %v", got, want)
			}
			closed(t, tables[i])
			tables[i], models[i] = made(t, p), model{}
		}
		step(t, draw, tables[i], models[i], p.Free())
		used := 0
		for k := range 3 {
			same(t, tables[k], models[k])
			used += models[k].nodes()
		}
		if p.Free() != n-used {
			t.Fatalf("Free: %d, want %d", p.Free(), n-used)
		}
	}
}

func TestNilAndZero(t *testing.T) {
	var x *radix.Table
	for _, page := range append(slices.Clone(noPages), somePages...) {
		none(t, x, page, api.ErrArg)
		fails(t, x, page, entry(1), api.ErrArg)
		fails(t, x, page, api.Slot{}, api.ErrArg)
		from(t, x, page, api.Spot{}, false)
	}
	told(t, x)
	closed(t, new(radix.Table))
	var zero radix.Table
	closed(t, &zero)
}

// TestCallsEnd asks that all calls end, whatever the pool's owner has done to the tables' frames.
func TestCallsEnd(t *testing.T) {
	for seed := range 60 {
		draw := draws(uint64(seed))
		n := 1 + draw(12)
		p := frames.New(n)
		x := made(t, p)
		for range 40 {
			for range draw(6) {
				f := draw(n)
				switch draw(4) {
				case 0:
					p.Drop(f)
				case 1:
					p.Take()
				default:
					// Tables that say of one another, in a ring too.
					p.Store(f, 8*draw(fan), api.U64, uint64(draw(n+1))<<4|uint64(draw(16)))
				}
			}
			page := pageOf(draw)
			x.Set(page, entry(draw(n+1)))
			x.Get(page)
			x.From(page)
			x.Drop(page)
			x.All()
			x.Nodes()
		}
		x.Close()
		closed(t, x)
	}
}
