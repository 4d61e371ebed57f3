package swap_test

import (
	"math"
	"strings"
	"testing"

	"flyleaf/api"
	"flyleaf/block"
	"flyleaf/swap"
)

// The numbers are written out: a test that asked api for them would follow it if it were wrong.
const (
	page    = 64
	sectors = 16384
	most    = 4096
)

// edges are numbers of int of which there is no slot, and where no area can begin; added to, taken away or taken 64 times, some of them wrap round to one that there is.
var edges = []int{
	math.MinInt, math.MinInt + 1, math.MinInt + most, -1 << 58, math.MinInt32, -sectors, -most, -65, -64, -2, -1,
	sectors + 1, 1 << 57, 1 << 58, 1<<58 + 1, 1 << 62, math.MaxInt - most, math.MaxInt - 1, math.MaxInt,
}

// lengths are those of texts that are no page.
var lengths = []int{0, 1, 2, 63, 65, 66, 127, 128, 129, 4096}

// bytes is a text of n bytes each of which tells its place, and whose it is.
func bytes(seed, n int) string {
	b := make([]byte, n)
	for i := range b {
		b[i] = byte(seed*37 + seed>>8 + i*5 + 1)
	}
	return string(b)
}

// area is one that can be.
func area(t *testing.T, d *block.Disk, first, slots int) *swap.Area {
	t.Helper()
	a, err := swap.New(d, first, slots)
	if a == nil || err != api.OK {
		t.Fatalf("New(%d, %d) on %d sectors: %v %d, want OK", first, slots, d.Sectors(), a, err)
	}
	return a
}

// none asks for an area that can't be.
func none(t *testing.T, d *block.Disk, first, slots int) {
	t.Helper()
	if a, err := swap.New(d, first, slots); a != nil || err != api.ErrArg {
		t.Errorf("New(%d, %d) on %d sectors: %v %d, want ErrArg", first, slots, d.Sectors(), a, err)
	}
}

// puts puts a page, and asks to which slot it went.
func puts(t *testing.T, a *swap.Area, s string, want int) {
	t.Helper()
	if slot, err := a.Put(s); slot != want || err != api.OK {
		t.Fatalf("Put: %d %d, want slot %d", slot, err, want)
	}
}

// refuses puts what can't be put.
func refuses(t *testing.T, a *swap.Area, s string, want api.Errno) {
	t.Helper()
	if slot, err := a.Put(s); slot != 0 || err != want {
		t.Fatalf("Put, %d bytes: %d %d, want 0 %d", len(s), slot, err, want)
	}
}

// gets asks what a slot has.
func gets(t *testing.T, a *swap.Area, slot int, want string) {
	t.Helper()
	if s, err := a.Get(slot); s != want || err != api.OK {
		t.Fatalf("Get(%d): %x %d, want %x 0", slot, s, err, want)
	}
}

// says asks what a call told.
func says(t *testing.T, what string, got, want api.Errno) {
	t.Helper()
	if got != want {
		t.Fatalf("%s: %d, want %d", what, got, want)
	}
}

// held asks how often each slot is held, and how many are, and that all others tell why they can't be used.
func held(t *testing.T, a *swap.Area, want ...int) {
	t.Helper()
	used := 0
	for slot, n := range want {
		if got := a.Held(slot); got != n {
			t.Fatalf("Held(%d): %d, want %d", slot, got, n)
		}
		if n > 0 {
			used++
		} else {
			noUse(t, a, slot, api.ErrState)
		}
	}
	if a.Used() != used || a.Slots() != len(want) {
		t.Fatalf("Used, Slots: %d, %d, want %d, %d", a.Used(), a.Slots(), used, len(want))
	}
	noUse(t, a, len(want), api.ErrRange)
	noUse(t, a, -1, api.ErrRange)
}

// noUse asks that no use of a slot is told anything but that error.
func noUse(t *testing.T, a *swap.Area, slot int, want api.Errno) {
	t.Helper()
	if s, err := a.Get(slot); s != "" || err != want {
		t.Fatalf("Get(%d): %x %d, want %d", slot, s, err, want)
	}
	if err := a.Hold(slot); err != want {
		t.Fatalf("Hold(%d): %d, want %d", slot, err, want)
	}
	if err := a.Free(slot); err != want {
		t.Fatalf("Free(%d): %d, want %d", slot, err, want)
	}
	if n := a.Held(slot); n != 0 {
		t.Fatalf("Held(%d): %d, want 0", slot, n)
	}
}

// counts asks how often a disk was read and written.
func counts(t *testing.T, d *block.Disk, reads, writes int) {
	t.Helper()
	if d.Reads() != reads || d.Writes() != writes {
		t.Fatalf("%d reads, %d writes, want %d, %d", d.Reads(), d.Writes(), reads, writes)
	}
}

// sector asks what a sector of a disk has.
func sector(t *testing.T, d *block.Disk, at int, want string) {
	t.Helper()
	if s, err := d.Read(at); s != want || err != api.OK {
		t.Fatalf("sector %d: %x %d, want %x", at, s, err, want)
	}
}

func TestLimits(t *testing.T) {
	if api.Page != page || api.MaxSlots != most || api.MaxSectors != sectors {
		t.Fatalf("Page %d, MaxSlots %d, MaxSectors %d", api.Page, api.MaxSlots, api.MaxSectors)
	}
}

// P5.1

func TestNew(t *testing.T) {
	for n := 1; n <= 9; n++ {
		d := block.New(n)
		for slots := -3; slots <= n+3; slots++ {
			for first := -3; first <= n+3; first++ {
				if slots < 0 || first < 0 || first+slots > n {
					none(t, d, first, slots)
				} else {
					held(t, area(t, d, first, slots), make([]int, slots)...)
				}
			}
		}
		counts(t, d, 0, 0)
	}
}

func TestNewOfNoDisk(t *testing.T) {
	for _, first := range append([]int{0, 1}, edges...) {
		for _, slots := range append([]int{0, 1, most}, edges...) {
			none(t, nil, first, slots)
			none(t, block.New(0), first, slots)
		}
	}
}

func TestNewOfADiskWithoutSectors(t *testing.T) {
	held(t, area(t, new(block.Disk), 0, 0))
	none(t, new(block.Disk), 0, 1)
	none(t, new(block.Disk), 1, 0)
}

func TestNewAtTheLimits(t *testing.T) {
	d := block.New(sectors)
	held(t, area(t, d, 0, most), make([]int, most)...)
	held(t, area(t, d, sectors-most, most), make([]int, most)...)
	held(t, area(t, d, sectors-most+1, most-1), make([]int, most-1)...)
	held(t, area(t, d, sectors, 0))
	none(t, d, sectors-most+1, most)
	none(t, d, 0, most+1)
	none(t, d, 0, sectors)
	none(t, d, sectors, 1)
	none(t, d, sectors+1, 0)
	for _, n := range edges {
		none(t, d, n, 0)
		none(t, d, n, 1)
		none(t, d, n, most)
		none(t, d, 0, n)
		none(t, d, sectors, n)
		none(t, d, -n, n)
		for _, m := range edges {
			none(t, d, n, m)
		}
	}
}

func TestNewLeavesTheDiskAsItIs(t *testing.T) {
	d := block.Of("a", bytes(1, page), "c")
	area(t, d, 1, 2)
	counts(t, d, 0, 0)
	sector(t, d, 1, bytes(1, page))
	for at := range 3 {
		says(t, "Write", d.Write(at, bytes(2, page)), api.OK)
	}
}

// P5.2

func TestExample(t *testing.T) {
	a := area(t, block.New(2), 0, 2)
	puts(t, a, bytes(1, page), 0)
	puts(t, a, bytes(2, page), 1)
	says(t, "Free(0)", a.Free(0), api.OK)
	puts(t, a, bytes(3, page), 0)
	gets(t, a, 0, bytes(3, page))
	gets(t, a, 1, bytes(2, page))
}

func TestPutOfNoPage(t *testing.T) {
	d := block.New(4)
	a := area(t, d, 1, 2)
	for _, n := range lengths {
		refuses(t, a, bytes(1, n), api.ErrArg)
		held(t, a, 0, 0)
	}
	puts(t, a, bytes(1, page), 0)
	for _, n := range lengths {
		refuses(t, a, bytes(2, n), api.ErrArg)
		held(t, a, 1, 0)
	}
	puts(t, a, bytes(2, page), 1)
	// That it is no page is asked ahead of whether there is a slot.
	for _, n := range lengths {
		refuses(t, a, bytes(3, n), api.ErrArg)
		held(t, a, 1, 1)
	}
	counts(t, d, 0, 2)
}

func TestPutToAFullArea(t *testing.T) {
	d := block.New(5)
	a := area(t, d, 1, 3)
	for slot := range 3 {
		puts(t, a, bytes(slot, page), slot)
	}
	for range 3 {
		refuses(t, a, bytes(9, page), api.ErrFull)
		held(t, a, 1, 1, 1)
	}
	counts(t, d, 0, 3)
	for slot := range 3 {
		gets(t, a, slot, bytes(slot, page))
	}
	sector(t, d, 0, strings.Repeat("\x00", page))
	sector(t, d, 4, strings.Repeat("\x00", page))
	refuses(t, area(t, d, 2, 0), bytes(1, page), api.ErrFull)
}

func TestPutToTheLeastFreeSlot(t *testing.T) {
	const n = 8
	for free := range 1 << n {
		a := area(t, block.New(n+2), 2, n)
		want := make([]int, n)
		for slot := range n {
			puts(t, a, bytes(slot, page), slot)
			want[slot] = 1
		}
		// The greater ones are freed first: the order doesn't count.
		for slot := n - 1; slot >= 0; slot-- {
			if free>>slot&1 == 1 {
				says(t, "Free", a.Free(slot), api.OK)
				want[slot] = 0
			}
		}
		for slot := range n {
			if want[slot] == 0 {
				puts(t, a, bytes(slot+n, page), slot)
				want[slot] = 1
				held(t, a, want...)
			}
		}
		refuses(t, a, bytes(0, page), api.ErrFull)
	}
}

func TestPutGoesToItsSectorAlone(t *testing.T) {
	for first := range 4 {
		const n = 3
		want := make([]string, first+n+2)
		for i := range want {
			want[i] = bytes(100+i, page)
		}
		d := block.Of(want...)
		a := area(t, d, first, n)
		for slot := range n {
			want[first+slot] = bytes(slot, page)
			puts(t, a, want[first+slot], slot)
			counts(t, d, slot*len(want), slot+1)
			for at, w := range want {
				sector(t, d, at, w)
			}
		}
	}
}

func TestPutAllThatMayBe(t *testing.T) {
	const first = sectors - most
	d := block.New(sectors)
	a := area(t, d, first, most)
	for slot := range most {
		puts(t, a, bytes(slot, page), slot)
	}
	refuses(t, a, bytes(1, page), api.ErrFull)
	for slot := range most {
		gets(t, a, slot, bytes(slot, page))
	}
	if a.Used() != most {
		t.Errorf("Used: %d", a.Used())
	}
	says(t, "Free", a.Free(most-1), api.OK)
	puts(t, a, bytes(7, page), most-1)
	sector(t, d, sectors-1, bytes(7, page))
	sector(t, d, first-1, strings.Repeat("\x00", page))
}

func TestPutToASealedSector(t *testing.T) {
	d := block.New(6)
	a := area(t, d, 2, 3)
	d.Seal(3)
	// The slots behind it are free, and not sealed: but the least free one can't be written.
	for range 2 {
		refuses(t, a, bytes(1, page), api.ErrState)
		held(t, a, 0, 0, 0)
	}
	refuses(t, a, bytes(1, 63), api.ErrArg)
	counts(t, d, 0, 0)

	d = block.New(6)
	a = area(t, d, 2, 3)
	puts(t, a, bytes(1, page), 0)
	puts(t, a, bytes(2, page), 1)
	d.Seal(4)
	gets(t, a, 0, bytes(1, page))
	gets(t, a, 1, bytes(2, page))
	says(t, "Hold(0)", a.Hold(0), api.OK)
	puts(t, a, bytes(3, page), 2)
	refuses(t, a, bytes(4, page), api.ErrFull)
	says(t, "Free(1)", a.Free(1), api.OK)
	refuses(t, a, bytes(4, page), api.ErrState)
	held(t, a, 2, 0, 1)
	says(t, "Free(0)", a.Free(0), api.OK)
	refuses(t, a, bytes(4, page), api.ErrState)
	held(t, a, 1, 0, 1)
	sector(t, d, 3, bytes(2, page))
}

// TestADiskThatIsNoMore has its owner take all sectors away.
func TestADiskThatIsNoMore(t *testing.T) {
	d := block.New(4)
	a := area(t, d, 1, 2)
	puts(t, a, bytes(1, page), 0)
	*d = block.Disk{}
	refuses(t, a, bytes(2, page), api.ErrRange)
	held(t, a, 1, 0)
	if s, err := a.Get(0); s != "" || err == api.OK {
		t.Errorf("Get: %x %d", s, err)
	}
	says(t, "Hold(0)", a.Hold(0), api.OK)
	held(t, a, 2, 0)
}

func TestNoSlot(t *testing.T) {
	d := block.New(9)
	for _, n := range []int{0, 1, 5} {
		a := area(t, d, 2, n)
		want := make([]int, n)
		for slot := range n {
			want[slot] = 1
			puts(t, a, bytes(slot, page), slot)
		}
		writes := d.Writes()
		for _, slot := range append([]int{n, n + 1, n + 2, page, 9, -n - 1}, edges...) {
			noUse(t, a, slot, api.ErrRange)
		}
		if d.Writes() != writes {
			t.Errorf("%d writes, want %d", d.Writes(), writes)
		}
		held(t, a, want...)
	}
}

func TestFreeSlots(t *testing.T) {
	d := block.New(6)
	a := area(t, d, 1, 4)
	for slot := range 4 {
		noUse(t, a, slot, api.ErrState)
	}
	counts(t, d, 0, 0)
	for slot := range 4 {
		puts(t, a, bytes(slot, page), slot)
	}
	says(t, "Free(2)", a.Free(2), api.OK)
	for range 3 {
		noUse(t, a, 2, api.ErrState)
	}
	held(t, a, 1, 1, 0, 1)
	counts(t, d, 0, 4)
}

func TestHoldAndFree(t *testing.T) {
	d := block.New(3)
	a := area(t, d, 0, 3)
	puts(t, a, bytes(1, page), 0)
	puts(t, a, bytes(2, page), 1)
	const times = 1000
	for n := range times {
		held(t, a, 1, n+1, 0)
		says(t, "Hold(1)", a.Hold(1), api.OK)
	}
	for n := range times {
		held(t, a, 1, times+1-n, 0)
		says(t, "Free(1)", a.Free(1), api.OK)
		gets(t, a, 1, bytes(2, page))
	}
	puts(t, a, bytes(3, page), 2)
	says(t, "Free(1)", a.Free(1), api.OK)
	held(t, a, 1, 0, 1)
	noUse(t, a, 1, api.ErrState)
	puts(t, a, bytes(4, page), 1)
	// Behind a new page it is held once, however often it was ahead.
	held(t, a, 1, 1, 1)
	gets(t, a, 0, bytes(1, page))
	gets(t, a, 1, bytes(4, page))
	gets(t, a, 2, bytes(3, page))
	counts(t, d, times+3, 4)
}

func TestOnlyPutAndGetUseTheDisk(t *testing.T) {
	d := block.New(3)
	a := area(t, d, 1, 2)
	puts(t, a, bytes(1, page), 0)
	counts(t, d, 0, 1)
	says(t, "Hold(0)", a.Hold(0), api.OK)
	says(t, "Free(0)", a.Free(0), api.OK)
	a.Held(0)
	a.Used()
	a.Slots()
	counts(t, d, 0, 1)
	gets(t, a, 0, bytes(1, page))
	counts(t, d, 1, 1)
	says(t, "Free(0)", a.Free(0), api.OK)
	counts(t, d, 1, 1)
	sector(t, d, 1, bytes(1, page))
}

// nothing asks an area without slots.
func nothing(t *testing.T, a *swap.Area, put, use api.Errno) {
	t.Helper()
	for range 2 {
		refuses(t, a, bytes(1, page), put)
		for _, n := range lengths {
			refuses(t, a, bytes(1, n), api.ErrArg)
		}
		for _, slot := range append([]int{0, 1, most - 1, most}, edges...) {
			noUse(t, a, slot, use)
		}
		if a.Used() != 0 || a.Slots() != 0 {
			t.Errorf("Used, Slots: %d, %d", a.Used(), a.Slots())
		}
	}
}

func TestNilAndZero(t *testing.T) {
	a, _ := swap.New(nil, 0, 0)
	nothing(t, nil, api.ErrArg, api.ErrArg)
	nothing(t, a, api.ErrArg, api.ErrArg)
	nothing(t, new(swap.Area), api.ErrFull, api.ErrRange)
	var zero swap.Area
	nothing(t, &zero, api.ErrFull, api.ErrRange)
	nothing(t, area(t, block.New(1), 1, 0), api.ErrFull, api.ErrRange)
}

// P5.3

// model is an area of plain texts.
type model struct {
	pages  []string
	held   []int
	first  int
	sealed int
}

func (m *model) put(s string) (int, api.Errno) {
	if len(s) != page {
		return 0, api.ErrArg
	}
	for slot, n := range m.held {
		if n > 0 {
			continue
		}
		if m.first+slot < m.sealed {
			return 0, api.ErrState
		}
		m.held[slot], m.pages[slot] = 1, s
		return slot, api.OK
	}
	return 0, api.ErrFull
}

func (m *model) use(slot int) api.Errno {
	switch {
	case slot < 0 || slot >= len(m.held):
		return api.ErrRange
	case m.held[slot] == 0:
		return api.ErrState
	}
	return api.OK
}

// draws tells numbers below a bound, the same ones each time.
func draws(seed uint64) func(below int) int {
	return func(below int) int {
		seed = seed*6364136223846793005 + 1442695040888963407
		return int(seed >> 33 % uint64(below))
	}
}

// step is one call of an area and of its model.
func step(t *testing.T, draw func(int) int, a *swap.Area, m *model) {
	t.Helper()
	slot := draw(len(m.held)+4) - 2
	want := m.use(slot)
	switch draw(9) {
	case 0, 1, 2:
		long := page
		if draw(9) == 0 {
			long = lengths[draw(len(lengths))]
		}
		s := bytes(draw(100000), long)
		got, err := a.Put(s)
		if w, e := m.put(s); got != w || err != e {
			t.Fatalf("Put, %d bytes: %d %d, want %d %d", long, got, err, w, e)
		}
	case 3, 4:
		says(t, "Hold", a.Hold(slot), want)
		if want == api.OK {
			m.held[slot]++
		}
	case 5, 6, 7:
		says(t, "Free", a.Free(slot), want)
		if want == api.OK {
			m.held[slot]--
		}
	default:
		s, err := a.Get(slot)
		if err != want || want == api.OK && s != m.pages[slot] || want != api.OK && s != "" {
			t.Fatalf("Get(%d): %x %d, want %d", slot, s, err, want)
		}
	}
}

// same asks that an area has what its model has.
func same(t *testing.T, a *swap.Area, m *model) {
	t.Helper()
	held(t, a, m.held...)
	for slot, n := range m.held {
		if n > 0 {
			gets(t, a, slot, m.pages[slot])
		}
	}
}

func TestLockstep(t *testing.T) {
	for seed := range 80 {
		draw := draws(uint64(seed))
		n, first := draw(10), draw(4)
		d := block.New(first + n + 1)
		a := area(t, d, first, n)
		m := &model{pages: make([]string, n), held: make([]int, n), first: first}
		for range 400 {
			step(t, draw, a, m)
			same(t, a, m)
			if draw(300) == 0 {
				m.sealed = max(m.sealed, draw(first+n+1))
				d.Seal(m.sealed)
			}
		}
	}
}

func TestAreasAreApart(t *testing.T) {
	d := block.New(9)
	draw := draws(77)
	areas, models := []*swap.Area{}, []*model{}
	for _, first := range []int{1, 4, 6} {
		areas = append(areas, area(t, d, first, 2))
		models = append(models, &model{pages: make([]string, 2), held: make([]int, 2), first: first})
	}
	for range 3000 {
		i := draw(3)
		step(t, draw, areas[i], models[i])
		for k := range 3 {
			same(t, areas[k], models[k])
		}
	}
	for _, at := range []int{0, 3, 8} {
		sector(t, d, at, strings.Repeat("\x00", page))
	}
}

func TestWhatIsToldDoesNotChange(t *testing.T) {
	a := area(t, block.New(1), 0, 1)
	puts(t, a, bytes(1, page), 0)
	first, _ := a.Get(0)
	says(t, "Free(0)", a.Free(0), api.OK)
	puts(t, a, bytes(2, page), 0)
	if first != bytes(1, page) {
		t.Errorf("told ahead: %x", first)
	}
	gets(t, a, 0, bytes(2, page))
}
