package region_test

import (
	"math"
	"slices"
	"testing"

	"flyleaf/api"
	"flyleaf/region"
)

// The numbers are written out: a test that asked api for them would follow it if it were wrong.
const (
	most   = 4096
	behind = 1 << 30

	ofFile  = 1
	ofZero  = 2
	ofHeap  = 3
	ofStack = 4

	isArg   = 1
	isNone  = 12
	isState = 13
)

// edges are numbers of int of which there is no page.
var edges = []int{math.MinInt, math.MinInt + 1, math.MinInt + most, -1 << 32, -behind, -most, -2, -1, most, most + 1, behind, 1 << 32, 1<<32 + 1, math.MaxInt - most, math.MaxInt - 1, math.MaxInt}

// what is what one page has: of kind 0 nothing.
type what struct{ perm, kind, file, page int }

// memory is what each page has.
type memory []what

// goesOn tells whether a page that has b goes on behind one that has a.
func goesOn(a, b what) bool {
	if a.kind == ofFile {
		a.page++
	}
	return a == b
}

// row is the one that has these pages.
func (m memory) row() []api.Region {
	l := []api.Region{}
	for i, w := range m {
		switch {
		case w.kind == 0:
		case i > 0 && goesOn(m[i-1], w):
			l[len(l)-1].To++
		default:
			l = append(l, api.Region{From: i, To: i + 1, Perm: w.perm, Kind: w.kind, File: w.file, Page: w.page})
		}
	}
	return l
}

// of is what a page of a region has.
func of(r api.Region, page int) what {
	w := what{perm: r.Perm, kind: r.Kind, file: r.File}
	if r.Kind == ofFile {
		w.page = r.Page + (page - r.From)
	}
	return w
}

// at is what a page has.
func (m memory) at(page int) what {
	if page < 0 || page >= len(m) {
		return what{}
	}
	return m[page]
}

// within is which pages there are from one up to another one.
func (m memory) within(from, to int) memory {
	from, to = max(from, 0), min(to, len(m))
	if from >= to {
		return nil
	}
	return m[from:to]
}

// covers tells whether each of these pages has something.
func (m memory) covers(from, to int) bool {
	if from >= to {
		return true
	}
	return from >= 0 && to <= len(m) && !slices.ContainsFunc(m[from:to], func(w what) bool { return w.kind == 0 })
}

// may tells whether a region may be.
func may(r api.Region) bool {
	switch {
	case r.From < 0, r.To > most, r.To < 1, r.From >= r.To, r.Perm < 0, r.Perm > 7, r.Kind < 1, r.Kind > 4:
		return false
	case r.Kind != ofFile:
		return r.File == -1 && r.Page == 0
	}
	return r.File >= 0 && r.Page >= 0 && r.Page < behind && r.Page+r.To-r.From <= behind
}

// add is the model of Add.
func (m memory) add(r api.Region) (memory, api.Errno) {
	if !may(r) {
		return nil, isArg
	}
	told := slices.Clone(m)
	for page := r.From; page < r.To; page++ {
		if told[page].kind != 0 {
			return nil, isState
		}
		told[page] = of(r, page)
	}
	return told, 0
}

// cut is the model of Cut.
func (m memory) cut(from, to int) memory {
	told := slices.Clone(m)
	clear(told.within(from, to))
	return told
}

// protect is the model of Protect.
func (m memory) protect(from, to, perm int) (memory, api.Errno) {
	switch {
	case perm < 0, perm > 7, from >= to:
		return nil, isArg
	case !m.covers(from, to):
		return nil, isNone
	}
	told := slices.Clone(m)
	for i := range told[from:to] {
		told[from+i].perm = perm
	}
	return told, 0
}

// gap is the model of Gap.
func (m memory) gap(low, high, n int) (int, bool) {
	if n < 1 || n > most {
		return 0, false
	}
	run := 0
	for page := max(low, 0); page < min(high, most); page++ {
		run++
		if m.at(page).kind != 0 {
			run = 0
		}
		if run == n {
			return page - n + 1, true
		}
	}
	return 0, false
}

// count is how many pages have something.
func (m memory) count() int {
	n := 0
	for _, w := range m {
		n += min(w.kind, 1)
	}
	return n
}

// blank is a memory without regions.
func blank() memory {
	return make(memory, most)
}

// is asks a row.
func is(t *testing.T, call string, got, want []api.Region) {
	t.Helper()
	if !slices.Equal(got, want) {
		t.Fatalf("%s: %v, want %v", call, got, want)
	}
}

// checks asks whether a row may be.
func checks(t *testing.T, l []api.Region, want api.Errno) {
	t.Helper()
	if got := region.Check(l); got != want {
		t.Fatalf("Check(%v): %d, want %d", l, got, want)
	}
}

// adds asks Add of the row of a memory what the model tells, and tells the memory behind it.
func adds(t *testing.T, m memory, r api.Region) memory {
	t.Helper()
	l := m.row()
	told, err := m.add(r)
	got, e := region.Add(l, r)
	if e != err || !slices.Equal(got, told.row()) {
		t.Fatalf("Add(%v, %v): %v %d, want %v %d", l, r, got, e, told.row(), err)
	}
	if err != 0 {
		return m
	}
	return told
}

// cuts asks the same of Cut.
func cuts(t *testing.T, m memory, from, to int) memory {
	t.Helper()
	l := m.row()
	told := m.cut(from, to)
	if got := region.Cut(l, from, to); !slices.Equal(got, told.row()) {
		t.Fatalf("Cut(%v, %d, %d): %v, want %v", l, from, to, got, told.row())
	}
	return told
}

// protects asks the same of Protect.
func protects(t *testing.T, m memory, from, to, perm int) memory {
	t.Helper()
	l := m.row()
	told, err := m.protect(from, to, perm)
	got, e := region.Protect(l, from, to, perm)
	if e != err || !slices.Equal(got, told.row()) {
		t.Fatalf("Protect(%v, %d, %d, %d): %v %d, want %v %d", l, from, to, perm, got, e, told.row(), err)
	}
	if err != 0 {
		return m
	}
	return told
}

// finds asks Find and Key of a page what the model tells.
func finds(t *testing.T, m memory, page int) {
	t.Helper()
	l := m.row()
	r, ok := region.Find(l, page)
	i := slices.IndexFunc(l, func(r api.Region) bool { return r.From <= page && page < r.To })
	if ok != (i >= 0) || ok != (m.at(page).kind != 0) || (ok && r != l[i]) || (!ok && r != api.Region{}) {
		t.Fatalf("Find(%v, %d): %v %v", l, page, r, ok)
	}
	for _, r := range l {
		keys(t, r, page)
	}
}

// keys asks Key of a region what the model tells.
func keys(t *testing.T, r api.Region, page int) {
	t.Helper()
	want := api.Key{}
	ok := r.Kind == ofFile && r.From <= page && page < r.To
	if ok {
		want = api.Key{File: r.File, Page: of(r, page).page}
	}
	if got, y := region.Key(r, page); got != want || y != ok {
		t.Fatalf("Key(%v, %d): %v %v, want %v %v", r, page, got, y, want, ok)
	}
}

// covered asks Covers what the model tells.
func covered(t *testing.T, m memory, from, to int) {
	t.Helper()
	if got := region.Covers(m.row(), from, to); got != m.covers(from, to) {
		t.Fatalf("Covers(%v, %d, %d): %v", m.row(), from, to, got)
	}
}

// gaps asks Gap what the model tells.
func gaps(t *testing.T, m memory, low, high, n int) {
	t.Helper()
	want, ok := m.gap(low, high, n)
	if got, y := region.Gap(m.row(), low, high, n); got != want || y != ok {
		t.Fatalf("Gap(%v, %d, %d, %d): %d %v, want %d %v", m.row(), low, high, n, got, y, want, ok)
	}
}

// draws is a row of numbers that look drawn, the same each time.
type draws uint64

// upTo is the next number, from 0 to n - 1.
func (d *draws) upTo(n int) int {
	*d = *d*6364136223846793005 + 1442695040888963407
	return int(uint64(*d) >> 33 % uint64(n))
}

// zero, heap, stack and file are regions.
func zero(from, to, perm int) api.Region {
	return api.Region{From: from, To: to, Perm: perm, Kind: ofZero, File: -1}
}

func heap(from, to, perm int) api.Region {
	return api.Region{From: from, To: to, Perm: perm, Kind: ofHeap, File: -1}
}

func stack(from, to, perm int) api.Region {
	return api.Region{From: from, To: to, Perm: perm, Kind: ofStack, File: -1}
}

func file(from, to, perm, number, page int) api.Region {
	return api.Region{From: from, To: to, Perm: perm, Kind: ofFile, File: number, Page: page}
}

// filled is a memory with these regions.
func filled(t *testing.T, l ...api.Region) memory {
	t.Helper()
	m := blank()
	for _, r := range l {
		told, err := m.add(r)
		if err != 0 {
			t.Fatalf("the test itself adds %v: %d", r, err)
		}
		m = told
	}
	return m
}

// some are rows that may be: none, one page, all pages, the first and the last one, those that touch, and those with pages between.
func some(t *testing.T) []memory {
	return []memory{
		blank(),
		filled(t, zero(5, 6, 4)),
		filled(t, zero(0, most, 6)),
		filled(t, file(0, most, 0, 0, behind-most)),
		filled(t, heap(0, 1, 7), stack(most-1, most, 6)),
		filled(t, file(2, 4, 5, 1, 0), file(4, 6, 5, 1, 3), file(6, 8, 5, 2, 5), file(8, 10, 6, 2, 7)),
		filled(t, zero(2, 4, 6), heap(4, 6, 6), stack(6, 8, 6), zero(8, 10, 6)),
		filled(t, file(1, 3, 4, 0, 0), zero(4, 5, 4), file(5, 8, 6, 0, 4), heap(16, 48, 6), stack(most-16, most, 6)),
		filled(t, file(most-6, most-4, 4, math.MaxInt, behind-2), zero(most-4, most-2, 0)),
	}
}

func TestLimits(t *testing.T) {
	if api.MaxPages != most || api.KindFile != ofFile || api.KindZero != ofZero || api.KindHeap != ofHeap || api.KindStack != ofStack {
		t.Fatal("the numbers of api are other ones than the document's")
	}
	if api.OK != 0 || api.ErrArg != isArg || api.ErrNone != isNone || api.ErrState != isState {
		t.Fatal("the errors of api are other ones than the document's")
	}
}

// P15.1: Check, Add, Cut, Protect

// TestExample has the chapter's one.
func TestExample(t *testing.T) {
	a, e := region.Add(nil, zero(0, 4, 6))
	is(t, "Add", a, []api.Region{zero(0, 4, 6)})
	b, f := region.Protect(a, 1, 2, 4)
	is(t, "Protect", b, []api.Region{zero(0, 1, 6), zero(1, 2, 4), zero(2, 4, 6)})
	c, g := region.Protect(b, 1, 2, 6)
	is(t, "Protect back", c, []api.Region{zero(0, 4, 6)})
	if e != 0 || f != 0 || g != 0 {
		t.Fatalf("errors %d %d %d", e, f, g)
	}
}

// TestRegions has each number of a region at its edges, with each of the others at theirs.
func TestRegions(t *testing.T) {
	froms := []int{math.MinInt, -most, -1, 0, 1, 2, most - 1, most, most + 1, math.MaxInt}
	tos := []int{math.MinInt, -1, 0, 1, 2, 3, most - 1, most, most + 1, math.MaxInt}
	perms := []int{math.MinInt, -1, 0, 3, 7, 8, math.MaxInt}
	kinds := []int{math.MinInt, -1, 0, 1, 2, 3, 4, 5, math.MaxInt}
	numbers := []int{math.MinInt, -2, -1, 0, 1, math.MaxInt}
	pages := []int{math.MinInt, -1, 0, 1, behind - most - 1, behind - most, behind - most + 1, behind - 3, behind - 2, behind - 1, behind, behind + 1, math.MaxInt}
	few := 0
	for _, from := range froms {
		for _, to := range tos {
			for _, perm := range perms {
				for _, kind := range kinds {
					for _, number := range numbers {
						for _, page := range pages {
							r := api.Region{From: from, To: to, Perm: perm, Kind: kind, File: number, Page: page}
							asksOne(t, r)
							if may(r) {
								few++
							}
						}
					}
				}
			}
		}
	}
	if few < 500 {
		t.Fatalf("only %d of the regions may be", few)
	}
}

// asksOne asks whether a region may be, by Check and by Add.
func asksOne(t *testing.T, r api.Region) {
	t.Helper()
	want, row := api.Errno(isArg), []api.Region{}
	if may(r) {
		want, row = 0, []api.Region{r}
	}
	if got := region.Check([]api.Region{r}); got != want {
		t.Fatalf("Check(%v): %d, want %d", r, got, want)
	}
	if got, err := region.Add(nil, r); err != want || !slices.Equal(got, row) {
		t.Fatalf("Add(nil, %v): %v %d, want %v %d", r, got, err, row, want)
	}
}

// TestCheckPairs has rows of two regions of each kind at each places near to each other.
func TestCheckPairs(t *testing.T) {
	all := []api.Region{}
	for from := 10; from < 14; from++ {
		for to := from + 1; to < 15; to++ {
			for _, perm := range []int{4, 6} {
				all = append(all, zero(from, to, perm), heap(from, to, perm), stack(from, to, perm))
				for page := range 5 {
					all = append(all, file(from, to, perm, 0, page), file(from, to, perm, 1, page))
				}
			}
		}
	}
	good := 0
	for _, a := range all {
		for _, b := range all {
			want := api.Errno(isArg)
			// a's last page and b's first one tell whether the two are one.
			if b.From > a.To || (b.From == a.To && !goesOn(of(a, a.To-1), of(b, b.From))) {
				want = 0
				good++
			}
			checks(t, []api.Region{a, b}, want)
			checks(t, []api.Region{zero(1, 2, 1), a, b, zero(most-1, most, 1)}, want)
		}
	}
	if good == 0 {
		t.Fatal("none of the pairs may be")
	}
}

func TestCheck(t *testing.T) {
	checks(t, nil, 0)
	checks(t, []api.Region{}, 0)
	for _, m := range some(t) {
		l := m.row()
		checks(t, l, 0)
		if len(l) > 1 {
			back := slices.Clone(l)
			slices.Reverse(back)
			checks(t, back, isArg)
			checks(t, slices.Concat(l, l), isArg)
		}
		for i := range l {
			checks(t, slices.Insert(slices.Clone(l), i, l[i]), isArg)
			checks(t, slices.Insert(slices.Clone(l), i, api.Region{}), isArg)
			wrong := slices.Clone(l)
			wrong[i].Perm = 8
			checks(t, wrong, isArg)
		}
		checks(t, append(l, zero(most, most+1, 4)), isArg)
	}
	// The third one is ahead of the second one, but behind the first one.
	checks(t, []api.Region{zero(0, 1, 4), zero(8, 9, 4), zero(4, 5, 4)}, isArg)
	// Two halves of one region, and three thirds.
	checks(t, []api.Region{zero(0, 1, 4), zero(1, 2, 4)}, isArg)
	checks(t, []api.Region{heap(0, 1, 4), zero(1, 2, 4), zero(2, 3, 4)}, isArg)
	checks(t, []api.Region{file(0, 1, 4, 3, 7), file(1, 2, 4, 3, 8)}, isArg)
	checks(t, []api.Region{file(0, 3, 4, 3, 7), file(3, 4, 4, 3, 8)}, 0)
	checks(t, []api.Region{file(0, 3, 4, 3, 7), file(3, 4, 4, 3, 10)}, isArg)
	checks(t, []api.Region{file(0, 3, 4, 3, 7), file(4, 5, 4, 3, 11)}, 0)
}

// TestAddAll adds regions of each kind at each places of rows, at their ends, between and over them.
func TestAddAll(t *testing.T) {
	for _, m := range some(t) {
		for _, base := range []int{0, most - 12} {
			for from := base; from < base+12; from++ {
				for to := from + 1; to <= base+12; to++ {
					for _, perm := range []int{4, 6} {
						adds(t, m, zero(from, to, perm))
						adds(t, m, heap(from, to, perm))
						adds(t, m, stack(from, to, perm))
						for page := 1; page < 6; page += 2 {
							adds(t, m, file(from, to, perm, 1+page%3%2, page))
						}
					}
				}
			}
		}
	}
}

// TestAddWrong adds regions that may not be, to rows that have their pages, and to others.
func TestAddWrong(t *testing.T) {
	for _, m := range some(t) {
		for _, x := range edges {
			adds(t, m, zero(x, 1, 4))
			adds(t, m, zero(x, most, 4))
			adds(t, m, zero(x, x, 4))
			adds(t, m, zero(0, x, 4))
			adds(t, m, zero(20, x, 4))
			adds(t, m, zero(100, 200, x))
			adds(t, m, api.Region{From: 100, To: 200, Perm: 4, Kind: x, File: -1})
			adds(t, m, api.Region{From: 100, To: 200, Perm: 4, Kind: ofZero, File: x})
			adds(t, m, api.Region{From: 100, To: 200, Perm: 4, Kind: ofZero, File: -1, Page: x})
			adds(t, m, file(100, 200, 4, x, 0))
			adds(t, m, file(100, 200, 4, 0, x))
		}
		adds(t, m, api.Region{})
		adds(t, m, zero(3, 3, 4))
		adds(t, m, zero(4, 3, 4))
	}
}

// TestAddJoins has what is one with the region ahead, with the one behind, with both, and with neither.
func TestAddJoins(t *testing.T) {
	for _, c := range []struct {
		l    []api.Region
		r    api.Region
		want []api.Region
	}{
		{[]api.Region{zero(0, 2, 6), zero(4, 6, 6)}, zero(2, 4, 6), []api.Region{zero(0, 6, 6)}},
		{[]api.Region{zero(0, 2, 6), zero(4, 6, 4)}, zero(2, 4, 6), []api.Region{zero(0, 4, 6), zero(4, 6, 4)}},
		{[]api.Region{zero(0, 2, 6), zero(4, 6, 4)}, zero(2, 4, 4), []api.Region{zero(0, 2, 6), zero(2, 6, 4)}},
		{[]api.Region{zero(0, 2, 6), zero(4, 6, 6)}, heap(2, 4, 6), []api.Region{zero(0, 2, 6), heap(2, 4, 6), zero(4, 6, 6)}},
		{[]api.Region{zero(0, 2, 6), zero(4, 6, 6)}, zero(2, 3, 6), []api.Region{zero(0, 3, 6), zero(4, 6, 6)}},
		{[]api.Region{zero(0, 2, 6), zero(4, 6, 6)}, zero(3, 4, 6), []api.Region{zero(0, 2, 6), zero(3, 6, 6)}},
		{[]api.Region{file(0, 2, 5, 1, 8), file(4, 6, 5, 1, 12)}, file(2, 4, 5, 1, 10), []api.Region{file(0, 6, 5, 1, 8)}},
		{[]api.Region{file(0, 2, 5, 1, 8), file(4, 6, 5, 1, 13)}, file(2, 4, 5, 1, 10), []api.Region{file(0, 4, 5, 1, 8), file(4, 6, 5, 1, 13)}},
		{[]api.Region{file(0, 2, 5, 1, 8), file(4, 6, 5, 1, 13)}, file(2, 4, 5, 1, 11), []api.Region{file(0, 2, 5, 1, 8), file(2, 6, 5, 1, 11)}},
		{[]api.Region{file(0, 2, 5, 1, 8), file(4, 6, 5, 2, 12)}, file(2, 4, 5, 1, 10), []api.Region{file(0, 4, 5, 1, 8), file(4, 6, 5, 2, 12)}},
		{[]api.Region{file(0, 2, 5, 1, 8)}, file(2, 4, 5, 1, 8), []api.Region{file(0, 2, 5, 1, 8), file(2, 4, 5, 1, 8)}},
		{[]api.Region{file(2, 4, 5, 1, 8)}, file(0, 2, 5, 1, 6), []api.Region{file(0, 4, 5, 1, 6)}},
		{[]api.Region{file(2, 4, 5, 1, 0)}, file(0, 2, 5, 1, 0), []api.Region{file(0, 2, 5, 1, 0), file(2, 4, 5, 1, 0)}},
	} {
		got, err := region.Add(c.l, c.r)
		is(t, "Add", got, c.want)
		if err != 0 {
			t.Fatalf("Add(%v, %v): %d", c.l, c.r, err)
		}
	}
}

// TestCutAll cuts each pages out of rows, none of them, and those that there aren't.
func TestCutAll(t *testing.T) {
	for _, m := range some(t) {
		for _, base := range []int{0, most - 12} {
			for from := base - 1; from < base+13; from++ {
				for to := base - 1; to < base+13; to++ {
					cuts(t, m, from, to)
				}
			}
		}
		for _, from := range append([]int{0, 3, 5, most - 5}, edges...) {
			for _, to := range append([]int{0, 3, 5, most - 5}, edges...) {
				cuts(t, m, from, to)
			}
		}
	}
	is(t, "Cut", region.Cut([]api.Region{file(2, 9, 5, 1, 8)}, 4, 6), []api.Region{file(2, 4, 5, 1, 8), file(6, 9, 5, 1, 12)})
	is(t, "Cut of none", region.Cut([]api.Region{file(2, 9, 5, 1, 8)}, 6, 4), []api.Region{file(2, 9, 5, 1, 8)})
	is(t, "Cut of nothing", region.Cut(nil, 0, most), nil)
}

// TestProtectAll protects each pages of rows with each perm.
func TestProtectAll(t *testing.T) {
	for _, m := range some(t) {
		for _, base := range []int{0, most - 12} {
			for from := base - 1; from < base+13; from++ {
				for to := base - 1; to < base+13; to++ {
					for perm := -1; perm < 9; perm++ {
						protects(t, m, from, to, perm)
					}
				}
			}
		}
		for _, from := range append([]int{0, 3, 5, most - 5}, edges...) {
			for _, to := range append([]int{0, 3, 5, most - 5}, edges...) {
				protects(t, m, from, to, 4)
				protects(t, m, from, to, -1)
			}
		}
		for _, perm := range edges {
			protects(t, m, 5, 6, perm)
			protects(t, m, 0, 1, perm)
			protects(t, m, 6, 5, perm)
		}
	}
}

// TestProtectJoins has regions that are one behind it, and such that aren't.
func TestProtectJoins(t *testing.T) {
	for _, c := range []struct {
		l              []api.Region
		from, to, perm int
		want           []api.Region
	}{
		{[]api.Region{zero(0, 2, 6), zero(2, 4, 4), zero(4, 6, 6)}, 2, 4, 6, []api.Region{zero(0, 6, 6)}},
		{[]api.Region{zero(0, 2, 6), zero(2, 4, 4), zero(4, 6, 6)}, 0, 6, 7, []api.Region{zero(0, 6, 7)}},
		{[]api.Region{zero(0, 2, 6), zero(2, 4, 4), zero(4, 6, 6)}, 1, 3, 5, []api.Region{zero(0, 1, 6), zero(1, 3, 5), zero(3, 4, 4), zero(4, 6, 6)}},
		{[]api.Region{zero(0, 2, 6), zero(2, 4, 4)}, 1, 2, 4, []api.Region{zero(0, 1, 6), zero(1, 4, 4)}},
		{[]api.Region{file(0, 2, 6, 0, 5), file(2, 4, 4, 0, 7)}, 0, 2, 4, []api.Region{file(0, 4, 4, 0, 5)}},
		{[]api.Region{file(0, 2, 6, 0, 5), file(2, 4, 4, 0, 6)}, 0, 2, 4, []api.Region{file(0, 2, 4, 0, 5), file(2, 4, 4, 0, 6)}},
		{[]api.Region{file(0, 6, 6, 0, 5)}, 2, 3, 0, []api.Region{file(0, 2, 6, 0, 5), file(2, 3, 0, 0, 7), file(3, 6, 6, 0, 8)}},
		{[]api.Region{zero(0, 2, 6), heap(2, 4, 4)}, 2, 4, 6, []api.Region{zero(0, 2, 6), heap(2, 4, 6)}},
	} {
		got, err := region.Protect(c.l, c.from, c.to, c.perm)
		is(t, "Protect", got, c.want)
		if err != 0 {
			t.Fatalf("Protect(%v, %d, %d, %d): %d", c.l, c.from, c.to, c.perm, err)
		}
	}
}

// P15.2: Find, Covers, Pages, Gap, Key

func TestFind(t *testing.T) {
	for _, m := range some(t) {
		for page := -1; page <= most; page++ {
			finds(t, m, page)
		}
		for _, page := range edges {
			finds(t, m, page)
		}
	}
}

func TestKey(t *testing.T) {
	for _, r := range []api.Region{file(0, 1, 0, 0, 0), file(3, 9, 5, 7, 4), file(0, most, 7, math.MaxInt, behind-most), file(most-1, most, 4, 1, behind-1), zero(3, 9, 6), heap(3, 9, 6), stack(0, most, 6)} {
		for page := -1; page <= most; page++ {
			keys(t, r, page)
		}
		for _, page := range edges {
			keys(t, r, page)
		}
	}
	if k, ok := region.Key(file(3, 9, 5, 7, 4), 8); (k != api.Key{File: 7, Page: 9}) || !ok {
		t.Fatalf("Key: %v %v", k, ok)
	}
}

func TestCovers(t *testing.T) {
	for _, m := range some(t) {
		for _, base := range []int{0, most - 20} {
			for from := base - 1; from < base+21; from++ {
				for to := base - 1; to < base+21; to++ {
					covered(t, m, from, to)
				}
			}
		}
		for _, from := range append([]int{0, 2, 5, most - 1}, edges...) {
			for _, to := range append([]int{0, 2, 5, most - 1}, edges...) {
				covered(t, m, from, to)
			}
		}
	}
}

func TestPages(t *testing.T) {
	for _, m := range some(t) {
		if got := region.Pages(m.row()); got != m.count() {
			t.Fatalf("Pages(%v): %d, want %d", m.row(), got, m.count())
		}
	}
	if n := region.Pages([]api.Region{zero(0, 3, 4), file(7, 9, 4, 0, 5)}); n != 5 {
		t.Fatalf("Pages: %d", n)
	}
}

func TestGap(t *testing.T) {
	for _, m := range some(t) {
		for _, n := range []int{math.MinInt, -1, 0, 1, 2, 3, 4, 5, most - 2, most - 1, most, most + 1, math.MaxInt} {
			for _, base := range []int{0, most - 18} {
				for low := base - 1; low < base+19; low++ {
					for high := base - 1; high < base+19; high++ {
						gaps(t, m, low, high, n)
					}
				}
			}
			for _, low := range append([]int{0, 3, 1000, most - 5}, edges...) {
				for _, high := range append([]int{0, 3, 1000, most - 5}, edges...) {
					gaps(t, m, low, high, n)
				}
			}
		}
	}
	l := []api.Region{zero(2, 4, 6), zero(5, 8, 6)}
	for _, c := range []struct{ low, high, n, want int }{
		{0, most, 1, 0}, {0, most, 2, 0}, {0, most, 3, 8}, {1, most, 1, 1}, {1, most, 2, 8}, {2, most, 1, 4}, {4, 5, 1, 4}, {4, 5, 2, -1},
		{3, 4, 1, -1}, {-5, most, 2, 0}, {6, 9, 1, 8}, {6, 8, 1, -1}, {0, most, most - 8, 8}, {0, most, most - 7, -1}, {0, most + 5, most - 7, -1}, {20, 22, 2, 20}, {20, 22, 3, -1},
	} {
		got, ok := region.Gap(l, c.low, c.high, c.n)
		if ok != (c.want >= 0) || got != max(c.want, 0) {
			t.Fatalf("Gap(%v, %d, %d, %d): %d %v, want %d", l, c.low, c.high, c.n, got, ok, c.want)
		}
	}
}

// P15.3: each page has what it had; of each set of pages there is one row

// small is how many pages a small world has.
const small = 4

// TestSmallWorlds has each memory of four pages, at both ends of all pages, and asks all of them.
func TestSmallWorlds(t *testing.T) {
	kinds := []func(page int) what{
		func(int) what { return what{} },
		func(int) what { return what{perm: 4, kind: ofZero, file: -1} },
		func(int) what { return what{perm: 6, kind: ofZero, file: -1} },
		func(int) what { return what{perm: 4, kind: ofHeap, file: -1} },
		func(page int) what { return what{perm: 4, kind: ofFile, file: 0, page: page} },
		func(page int) what { return what{perm: 4, kind: ofFile, file: 0, page: page + 1} },
		func(page int) what { return what{perm: 6, kind: ofFile, file: 1, page: page} },
	}
	for _, base := range []int{0, most - small} {
		m := blank()
		var fill func(i int)
		fill = func(i int) {
			if i == small {
				askAll(t, m, base)
				return
			}
			for _, k := range kinds {
				m[base+i] = k(base + i)
				fill(i + 1)
			}
		}
		fill(0)
	}
}

// askAll asks all of a small world. To clone all pages at each call takes long: so only the few that may change are held against the model.
func askAll(t *testing.T, m memory, base int) {
	l := m.row()
	checks(t, l, 0)
	asks := small + 1
	near := m[base : base+small]
	row := func(pages memory) []api.Region {
		told := pages.row()
		for i := range told {
			told[i].From += base
			told[i].To += base
		}
		return told
	}
	for from := range asks {
		for to := from + 1; to < asks; to++ {
			is(t, "Cut", region.Cut(l, base+from, base+to), row(near.cut(from, to)))
			want, err := near.protect(from, to, 6)
			got, e := region.Protect(l, base+from, base+to, 6)
			is(t, "Protect", got, row(want))
			if err != e || region.Covers(l, base+from, base+to) != (err == 0) {
				t.Fatalf("Protect(%v, %d, %d, 6): %d, want %d; Covers: %v", l, base+from, base+to, e, err, err != 0)
			}
			for _, r := range []api.Region{zero(from, to, 4), heap(from, to, 4), file(from, to, 4, 0, base+from), file(from, to, 6, 1, base+from)} {
				want, err := near.add(r)
				r.From, r.To = base+from, base+to
				got, e := region.Add(l, r)
				is(t, "Add", got, row(want))
				if e != err {
					t.Fatalf("Add(%v, %v): %d, want %d", l, r, e, err)
				}
			}
		}
	}
}

// TestOneRow puts the same regions in each order, with others that go again: the row is the same.
func TestOneRow(t *testing.T) {
	l := []api.Region{zero(2, 4, 6), zero(4, 5, 6), file(5, 7, 4, 0, 3), file(7, 9, 4, 0, 5), heap(9, 10, 6), zero(10, 12, 4)}
	want := []api.Region{zero(2, 5, 6), file(5, 9, 4, 0, 3), heap(9, 10, 6), zero(10, 12, 4)}
	n := 0
	var put func(row, rest []api.Region)
	put = func(row, rest []api.Region) {
		if len(rest) == 0 {
			n++
			is(t, "all in some order", row, want)
			return
		}
		for i, r := range rest {
			more, err := region.Add(row, r)
			if err != 0 {
				t.Fatalf("Add(%v, %v): %d", row, r, err)
			}
			checks(t, more, 0)
			is(t, "Cut of what was added", region.Cut(more, r.From, r.To), row)
			put(more, slices.Delete(slices.Clone(rest), i, i+1))
		}
	}
	put(nil, l)
	if n != 720 {
		t.Fatalf("%d orders", n)
	}
}

// drawn is a region that may be, or, at times, may not.
func (d *draws) drawn(pages int) api.Region {
	from := d.upTo(pages)
	to := from + 1 + d.upTo(1+pages/4)
	perm := []int{4, 4, 6, 6, 5, 0, 7, 8}[d.upTo(8)]
	switch d.upTo(6) {
	case 0:
		return heap(from, to, perm)
	case 1:
		return stack(from, to, perm)
	case 2, 3:
		// Pages of files go on where the pages do, at times with others between.
		return file(from, to, perm, d.upTo(2), from+d.upTo(2))
	}
	return zero(from, to, perm)
}

// TestDrawnScripts has a row and the model go on together, call by call.
func TestDrawnScripts(t *testing.T) {
	for _, c := range []struct{ seed, pages, base, steps int }{{1, 12, 0, 3000}, {2, 12, most - 12, 3000}, {3, 60, 900, 3000}, {4, most, 0, 1000}} {
		d, m := draws(c.seed), blank()
		most := 0
		for range c.steps {
			from := c.base + d.upTo(c.pages)
			to := from + d.upTo(1+c.pages/3)
			switch d.upTo(9) {
			case 0, 1, 2, 3, 4:
				r := d.drawn(c.pages)
				r.From, r.To = r.From+c.base, r.To+c.base
				m = adds(t, m, r)
			case 5:
				m = cuts(t, m, from, to)
			default:
				m = protects(t, m, from, to, []int{0, 4, 6, 6, 8}[d.upTo(5)])
			}
			finds(t, m, from)
			covered(t, m, from, to)
			gaps(t, m, from, c.base+d.upTo(c.pages+9), 1+d.upTo(c.pages/4))
			if n := region.Pages(m.row()); n != m.count() {
				t.Fatalf("Pages(%v): %d, want %d", m.row(), n, m.count())
			}
			checks(t, m.row(), 0)
			most = max(most, len(m.row()))
		}
		if most < 4 {
			t.Fatalf("script %d has never had more than %d regions", c.seed, most)
		}
	}
}

// R3: what is handed in stays as it is, what is told is its owner's

// TestOwners hands in a part of a longer row, and writes into all that was handed in and told.
func TestOwners(t *testing.T) {
	for _, m := range some(t) {
		l := m.row()
		long := slices.Concat(l, []api.Region{heap(77, 78, 3), heap(79, 80, 3)})
		for _, call := range []func(l []api.Region) []api.Region{
			func(l []api.Region) []api.Region { told, _ := region.Add(l, zero(1000, 1001, 4)); return told },
			func(l []api.Region) []api.Region { told, _ := region.Add(l, zero(1, 2, 6)); return told },
			func(l []api.Region) []api.Region { return region.Cut(l, 3, 4) },
			func(l []api.Region) []api.Region { return region.Cut(l, 3, 3) },
			func(l []api.Region) []api.Region { told, _ := region.Protect(l, 5, 6, 7); return told },
			func(l []api.Region) []api.Region { told, _ := region.Protect(l, 2, 3, 5); return told },
		} {
			given := slices.Clone(long)
			first := call(given[:len(l)])
			kept := slices.Clone(first)
			if !slices.Equal(given, long) {
				t.Fatalf("what was handed in is %v, and was %v", given, long)
			}
			for i := range given {
				given[i] = api.Region{}
			}
			is(t, "told, once what was handed in is changed", first, kept)
			second := call(slices.Clone(long)[:len(l)])
			_ = append(first, heap(81, 82, 3))
			for i := range first {
				first[i] = api.Region{}
			}
			is(t, "told again, once what was told first is changed", second, kept)
		}
	}
}

// P1: all calls end, at all arguments

// TestWrongRows asks all of rows that may not be: nothing is promised of the answers.
func TestWrongRows(t *testing.T) {
	numbers := append([]int{0, 1, 5, most - 1}, edges...)
	rows := [][]api.Region{{zero(4, 8, 6), zero(6, 9, 6)}, {zero(4, 8, 6), zero(0, 2, 6)}, {{}, {}}, {zero(0, most, 6), zero(0, most, 6)}}
	for _, x := range numbers {
		for _, y := range numbers {
			rows = append(rows, []api.Region{zero(x, y, 6)}, []api.Region{file(x, y, x, y, x), file(y, x, y, x, y)}, []api.Region{{From: y, To: x, Perm: y, Kind: ofFile, File: y, Page: x}, zero(2, 4, 6)})
		}
	}
	for _, l := range rows {
		for _, x := range numbers {
			region.Add(l, zero(3, 5, 6))
			region.Find(l, x)
			region.Pages(l)
			region.Key(l[0], x)
			for _, y := range []int{math.MinInt, -1, 0, 3, most, math.MaxInt} {
				region.Cut(l, x, y)
				region.Cut(l, y, x)
				region.Protect(l, y, x, 6)
				region.Covers(l, x, y)
				region.Gap(l, x, y, 1)
				region.Gap(l, y, x, x)
			}
		}
	}
}

// TestNothing asks all of a row without regions.
func TestNothing(t *testing.T) {
	m := blank()
	for _, x := range append([]int{0, 1, most - 1}, edges...) {
		finds(t, m, x)
		for _, y := range append([]int{0, 1, most - 1}, edges...) {
			cuts(t, m, x, y)
			protects(t, m, x, y, 4)
			covered(t, m, x, y)
			gaps(t, m, x, y, 1)
			gaps(t, m, 0, x, y)
		}
	}
	if n := region.Pages(nil); n != 0 {
		t.Fatalf("Pages(nil): %d", n)
	}
	keys(t, api.Region{}, 0)
}

// TestLongRows has a region for each page, in which each second one is read only, and lists that are longer than a row may be.
func TestLongRows(t *testing.T) {
	m := blank()
	for i := range m {
		m[i] = what{perm: 4 + 2*(i%2), kind: ofZero, file: -1}
	}
	l := m.row()
	if len(l) != most {
		t.Fatalf("%d regions", len(l))
	}
	checks(t, l, 0)
	one, err := region.Protect(l, 0, most, 6)
	is(t, "Protect of all", one, []api.Region{zero(0, most, 6)})
	if err != 0 {
		t.Fatalf("Protect of all: %d", err)
	}
	is(t, "Cut of all", region.Cut(l, 0, most), nil)
	for i := 0; i < most; i += 97 {
		m = cuts(t, m, i, i+3)
		m = adds(t, m, zero(i+1, i+2, 4))
		gaps(t, m, i, most, 2)
	}
	long := make([]api.Region, 1<<20)
	for i := range long {
		long[i] = zero(i, i+1, 4+2*(i%2))
	}
	checks(t, long, isArg)
	region.Cut(long, 0, most)
	region.Protect(long, 5, 1<<19, 6)
	region.Add(long, zero(0, 1, 6))
	region.Gap(long, 0, most, 1)
	region.Find(long, 1<<20)
}
