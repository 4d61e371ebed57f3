package place_test

import (
	"math"
	"math/big"
	"slices"
	"testing"

	"flyleaf/api"
	"flyleaf/place"
)

// page and highest are written out: a test that asked the program for them would follow it if they were wrong.
const (
	page    = 64
	highest = 1 << 40
)

// w is what wants a size, and likes a place.
func w(size, slot int) api.Want {
	return api.Want{Size: size, Slot: slot}
}

// whole is a size in whole pages.
func whole(size int) int {
	return (size + page - 1) / page * page
}

// free tells whether size bytes from a place on are in the room, and none of them was taken by the first things.
func free(l []api.Want, at []int, low, high, place, size int) bool {
	if place < low || place+size > high {
		return false
	}
	for i, from := range at {
		if place < from+whole(l[i].Size) && from < place+size {
			return false
		}
	}
	return true
}

// least is the least whole page at which that is so; false, if there is none. It is the room's first one, or one behind something.
func least(l []api.Want, at []int, low, high, size int) (int, bool) {
	found, where := false, 0
	try := func(place int) {
		if free(l, at, low, high, place, size) && (!found || place < where) {
			found, where = true, place
		}
	}
	try(low)
	for i, from := range at {
		try(from + whole(l[i].Size))
	}
	return where, found
}

// slow is the least whole page as the document says it, page by page.
func slow(l []api.Want, at []int, low, high, size int) (int, bool) {
	for place := low; place < high; place += page {
		if free(l, at, low, high, place, size) {
			return place, true
		}
	}
	return 0, false
}

// model is what is told of things that may be, in a room that may be.
func model(l []api.Want, low, high int) ([]int, api.Errno) {
	at := []int{}
	for _, w := range l {
		size := whole(w.Size)
		if w.Slot != 0 && w.Slot%page == 0 && free(l, at, low, high, w.Slot, size) {
			at = append(at, w.Slot)
			continue
		}
		place, ok := least(l, at, low, high, size)
		if !ok {
			return nil, 18
		}
		at = append(at, place)
	}
	return at, 0
}

// tells asks where things are put.
func tells(t *testing.T, l []api.Want, low, high int, want ...int) {
	t.Helper()
	if got, err := place.All(l, low, high); err != 0 || !slices.Equal(got, want) {
		t.Fatalf("All(%v, %d, %d): %v %d, want %v 0", l, low, high, got, err, want)
	}
}

// refuses asks that things are put nowhere.
func refuses(t *testing.T, l []api.Want, low, high int, want api.Errno) {
	t.Helper()
	if got, err := place.All(l, low, high); err != want || len(got) != 0 {
		t.Fatalf("All(%v, %d, %d): %v %d, want nothing and %d", l, low, high, got, err, want)
	}
}

// alike asks of things what the model tells, and of each of their beginnings where the next one goes.
func alike(t *testing.T, l []api.Want, low, high int) {
	t.Helper()
	want, err := model(l, low, high)
	if err != 0 {
		refuses(t, l, low, high, err)
		return
	}
	tells(t, l, low, high, want...)
}

// goes asks where one that likes no place goes; below 0: nowhere.
func goes(t *testing.T, l []api.Want, at []int, low, high, size, want int) {
	t.Helper()
	got, ok := place.Free(l, at, low, high, size)
	if ok != (want >= 0) || got != max(want, 0) {
		t.Fatalf("Free(%v, %v, %d, %d, %d): %d %v, want %d", l, at, low, high, size, got, ok, want)
	}
}

// goesAlike asks the same as the model tells.
func goesAlike(t *testing.T, l []api.Want, at []int, low, high, size int) {
	t.Helper()
	want, ok := least(l, at, low, high, whole(size))
	if !ok {
		want = -1
	}
	goes(t, l, at, low, high, size, want)
}

// draws is a row of numbers that look drawn, the same each time.
type draws uint64

// upTo is the next number, from 0 to n - 1.
func (d *draws) upTo(n int) int {
	*d = *d*6364136223846793005 + 1442695040888963407
	return int(uint64(*d) >> 33 % uint64(n))
}

// wants are so many things of up to so many pages, that like places up to so many pages, some of them none, or none that is whole.
func (d *draws) wants(count, pages, slots int) []api.Want {
	l := make([]api.Want, count)
	for i := range l {
		l[i].Size = 1 + d.upTo(pages*page)
		switch d.upTo(8) {
		case 0, 1, 2:
		case 3:
			l[i].Slot = d.upTo(slots * page)
		default:
			l[i].Slot = d.upTo(slots+1) * page
		}
	}
	return l
}

func TestLimits(t *testing.T) {
	if api.Page != page || api.OK != 0 || api.ErrArg != 1 || api.ErrMem != 18 {
		t.Fatal("the numbers of api are other ones than the document's")
	}
}

// P13.1: All

func TestAllExamples(t *testing.T) {
	tells(t, []api.Want{w(100, 128), w(64, 128), w(64, 0)}, 0, 4096, 128, 0, 64)
	tells(t, nil, 0, 0)
	tells(t, nil, 64, 4096)
	tells(t, []api.Want{w(1, 0)}, 0, 64, 0)
	tells(t, []api.Want{w(1, 0), w(65, 0), w(64, 0), w(128, 0)}, 0, 4096, 0, 64, 192, 256)
	tells(t, []api.Want{w(64, 0)}, 4032, 4096, 4032)
	tells(t, []api.Want{w(64, 64), w(65, 0), w(1, 0)}, 0, 4096, 64, 128, 0)
	tells(t, []api.Want{w(64, 128), w(64, 64), w(64, 192), w(64, 256)}, 64, 320, 128, 64, 192, 256)
	tells(t, []api.Want{w(64, 128), w(64, 128), w(64, 128), w(64, 128)}, 64, 320, 128, 64, 192, 256)
}

// TestSlots has one thing that likes a place, at each edge of the room and of what is taken.
func TestSlots(t *testing.T) {
	for _, c := range []struct{ size, slot, want int }{
		{64, 0, 1024},
		{64, 1024, 1024},
		{64, 960, 1024},
		{64, 64, 1024},
		{128, 960, 1024},
		{64, 1025, 1024},
		{64, 1087, 1024},
		{64, 1088, 1088},
		{64, 1089, 1024},
		{64, 2048 - 64, 2048 - 64},
		{64, 2048, 1024},
		{64, 2048 + 64, 1024},
		{64, 2048 - 63, 1024},
		{65, 2048 - 64, 1024},
		{65, 2048 - 128, 2048 - 128},
		{128, 2048 - 128, 2048 - 128},
		{129, 2048 - 128, 1024},
		{1024, 1024, 1024},
		{1023, 1024, 1024},
		{1024, 1088, 1024},
		{1, highest, 1024},
		{1, highest - 64, 1024},
		{1, highest - 1, 1024},
	} {
		tells(t, []api.Want{w(c.size, c.slot)}, 1024, 2048, c.want)
	}
	// Five pages of the room, of which the middle one is taken.
	for _, c := range []struct{ size, slot, want int }{
		{64, 0, 0}, {64, 64, 64}, {64, 128, 0}, {64, 192, 192}, {64, 256, 256}, {64, 320, 0},
		{65, 0, 0}, {65, 64, 0}, {65, 128, 0}, {65, 192, 192}, {65, 256, 0},
		{128, 64, 0}, {128, 192, 192}, {127, 192, 192}, {1, 129, 0}, {1, 127, 0}, {1, 193, 0},
	} {
		tells(t, []api.Want{w(64, 128), w(c.size, c.slot)}, 0, 320, 128, c.want)
	}
}

// TestNoPlace has things for which there is too little free at one place, if not in all.
func TestNoPlace(t *testing.T) {
	refuses(t, []api.Want{w(1, 0)}, 0, 0, 18)
	refuses(t, []api.Want{w(1, 64)}, 64, 64, 18)
	refuses(t, []api.Want{w(65, 0)}, 0, 64, 18)
	refuses(t, []api.Want{w(65, 64)}, 64, 128, 18)
	refuses(t, []api.Want{w(1, 0), w(1, 0)}, 0, 64, 18)
	refuses(t, []api.Want{w(1, 0), w(1, 0), w(1, 0)}, 64, 192, 18)
	refuses(t, []api.Want{w(64, 64), w(65, 0)}, 0, 192, 18)
	refuses(t, []api.Want{w(64, 64), w(128, 0)}, 0, 192, 18)
	refuses(t, []api.Want{w(64, 64), w(128, 0), w(1, 0)}, 0, 192, 18)
	tells(t, []api.Want{w(64, 64), w(64, 0), w(64, 0)}, 0, 192, 64, 0, 128)
	refuses(t, []api.Want{w(64, 64), w(64, 0), w(64, 0), w(1, 0)}, 0, 192, 18)
	refuses(t, []api.Want{w(highest, 0)}, 0, highest-64, 18)
	refuses(t, []api.Want{w(highest, 0)}, 64, highest, 18)
	refuses(t, []api.Want{w(highest, 0), w(1, 0)}, 0, highest, 18)
	refuses(t, []api.Want{w(highest, highest), w(highest, 0)}, 0, highest, 18)
	tells(t, []api.Want{w(highest, 0)}, 0, highest, 0)
	tells(t, []api.Want{w(highest-1, highest)}, 0, highest, 0)
	tells(t, []api.Want{w(highest-64, 64)}, 0, highest, 64)
	tells(t, []api.Want{w(highest-63, 64)}, 0, highest, 0)
	tells(t, []api.Want{w(1, highest-64), w(highest-64, 0)}, 0, highest, highest-64, 0)
	tells(t, []api.Want{w(1, 0)}, highest-64, highest, highest-64)
	refuses(t, []api.Want{w(1, 0)}, highest, highest, 18)
}

// TestRooms has rooms that may be, and others; what is in them counts for nothing then.
func TestRooms(t *testing.T) {
	edges := []int{math.MinInt, math.MinInt + 64, -highest, -128, -64, -63, -1, 0, 1, 32, 63, 64, 65, 100, 128, highest - 64, highest - 63, highest - 1, highest, highest + 1, highest + 64, 2 * highest, math.MaxInt - 63, math.MaxInt}
	for _, low := range edges {
		for _, high := range edges {
			may := low >= 0 && low%64 == 0 && high%64 == 0 && low <= high && high <= highest
			if !may {
				refuses(t, nil, low, high, 1)
				refuses(t, []api.Want{w(1, 0)}, low, high, 1)
				refuses(t, []api.Want{w(highest, 0), w(highest, 64)}, low, high, 1)
				goes(t, nil, nil, low, high, 1, -1)
				goes(t, []api.Want{w(1, 0)}, []int{0}, low, high, 64, -1)
				continue
			}
			tells(t, nil, low, high)
			if low < high {
				tells(t, []api.Want{w(1, 0)}, low, high, low)
				tells(t, []api.Want{w(high-low, low)}, low, high, low)
				goes(t, nil, nil, low, high, 1, low)
				goes(t, nil, nil, low, high, high-low, low)
			} else {
				refuses(t, []api.Want{w(1, 0)}, low, high, 18)
				goes(t, nil, nil, low, high, 1, -1)
			}
		}
	}
}

// TestThings has sizes and slots that may be, and others, the latter ahead of, between and behind things for which there is room, or none.
func TestThings(t *testing.T) {
	for _, wrong := range []api.Want{
		w(0, 0), w(-1, 0), w(-64, 64), w(math.MinInt, 0), w(highest+1, 0), w(highest+64, 64), w(math.MaxInt, 0), w(math.MaxInt-63, 0),
		w(1, -1), w(64, -64), w(1, math.MinInt), w(1, -highest), w(1, highest+1), w(1, highest+64), w(1, math.MaxInt), w(1, math.MaxInt-63), w(0, -1), w(highest+1, highest+1),
	} {
		for _, l := range [][]api.Want{{wrong}, {wrong, w(1, 0)}, {w(1, 0), wrong}, {w(1, 64), wrong, w(1, 0)}, {w(highest, 0), wrong}, {wrong, w(highest, 0)}, {w(highest, 0), w(highest, 0), wrong}} {
			refuses(t, l, 0, 4096, 1)
			refuses(t, l, 0, 0, 1)
			refuses(t, l, 0, highest, 1)
		}
	}
	for _, size := range []int{1, 63, 64, 65, 4096, highest - 1, highest} {
		for _, slot := range []int{0, 1, 63, 64, 65, highest - 64, highest - 1, highest} {
			alike(t, []api.Want{w(size, slot)}, 0, 4096)
			alike(t, []api.Want{w(size, slot)}, 64, 192)
			alike(t, []api.Want{w(size, slot), w(1, 64)}, 0, highest)
		}
	}
}

// TestAllSmallLists has each list of up to three things of few sizes and slots, in small rooms.
func TestAllSmallLists(t *testing.T) {
	all := []api.Want{}
	for _, size := range []int{1, 64, 65, 192} {
		for _, slot := range []int{0, 32, 64, 128, 192, 256, 320} {
			all = append(all, w(size, slot))
		}
	}
	for _, ends := range [][2]int{{0, 0}, {0, 64}, {0, 128}, {64, 128}, {64, 256}, {128, 192}, {0, 320}, {64, 448}} {
		for _, a := range all {
			alike(t, []api.Want{a}, ends[0], ends[1])
			for _, b := range all {
				alike(t, []api.Want{a, b}, ends[0], ends[1])
				for _, c := range all {
					alike(t, []api.Want{a, b, c}, ends[0], ends[1])
				}
			}
		}
	}
}

// TestDrawnLists has rooms in which there is much room, and little.
func TestDrawnLists(t *testing.T) {
	g := draws(131)
	told := 0
	for range 20000 {
		l := g.wants(1+g.upTo(24), 1+g.upTo(6), 1+g.upTo(80))
		low := g.upTo(20) * page
		high := low + g.upTo(80)*page
		alike(t, l, low, high)
		if _, err := model(l, low, high); err == 0 {
			told++
		}
	}
	if told < 4000 || told > 18000 {
		t.Fatalf("%d of the drawn lists were told", told)
	}
	for range 200 {
		alike(t, g.wants(300, 1+g.upTo(6), 1200), 0, 1200*page)
	}
}

// TestFullRooms fills rooms to the last page, of which every second, third or later one is liked.
func TestFullRooms(t *testing.T) {
	for step := 2; step < 9; step++ {
		for count := 1; count < 70; count++ {
			l, want := []api.Want{}, []int{}
			for i := range count {
				at := 640 + i*step*page
				l, want = append(l, w(1, at)), append(want, at)
			}
			high := 640 + count*step*page
			for i := range count {
				l, want = append(l, w((step-1)*page, 0)), append(want, 640+i*step*page+page)
			}
			tells(t, l, 640, high, want...)
			refuses(t, append(l, w(1, 0)), 640, high, 18)
			tells(t, append(l, w(1, high)), 640, high+64, append(want, high)...)
			slices.Reverse(l[:count])
			slices.Reverse(want[:count])
			tells(t, l, 640, high, want...)
		}
	}
}

// TestLongLists has lists in which going over all that was placed, for each thing, would take for ever.
func TestLongLists(t *testing.T) {
	const n = 300000
	packed, want := make([]api.Want, n), make([]int, n)
	for i := range packed {
		packed[i], want[i] = w(1+i%64, 0), i*page
	}
	equal := func(what string, l []api.Want, high int, want []int) {
		t.Helper()
		if got, err := place.All(l, 0, high); err != 0 || !slices.Equal(got, want) {
			t.Fatalf("%s: All of %d things: %d places, %d", what, len(l), len(got), err)
		}
	}
	equal("packed", packed, n*page, want)
	if got, err := place.All(packed, 0, (n-1)*page); err != 18 || len(got) != 0 {
		t.Fatalf("All of a room that is too small: %d places, %d", len(got), err)
	}
	// The same place is liked by all: the first one has it.
	for i := range packed {
		packed[i].Slot = (n - 1) * page
		want[i] = (i + n - 1) % n * page
	}
	equal("one place", packed, n*page, want)
	// Every second page is liked, from the highest one down; the greater ones go to the first two pages and behind all these, the last ones between.
	const third = n / 3
	gaps, want := []api.Want{}, []int{}
	put := func(at int, thing api.Want) {
		gaps, want = append(gaps, thing), append(want, at)
	}
	for i := third; i > 0; i-- {
		put(2*i*page, w(page, 2*i*page))
	}
	put(0, w(2*page, 0))
	for i := range third - 1 {
		put((2*third+1+2*i)*page, w(65+i%64, 0))
	}
	for i := range third - 1 {
		put((3+2*i)*page, w(1, page))
	}
	equal("gaps", gaps, highest, want)
	goes(t, gaps, want, 0, highest, 1, (4*third-1)*page)
	goes(t, gaps[:2*third], want[:2*third], 0, highest, 1, 3*page)
}

// P13.2: Meet, Round, Free

func TestMeetExamples(t *testing.T) {
	for _, c := range []struct {
		a, na, b, nb int
		want         bool
	}{
		{0, 1, 0, 1, true},
		{0, 0, 0, 1, false},
		{0, 1, 0, 0, false},
		{0, 0, 0, 0, false},
		{0, 1, 1, 1, false},
		{0, 2, 1, 1, true},
		{1, 1, 0, 1, false},
		{1, 1, 0, 2, true},
		{0, 64, 64, 64, false},
		{0, 65, 64, 64, true},
		{0, 100, 50, 0, false},
		{50, 0, 0, 100, false},
		{0, 100, 50, 10, true},
		{50, 10, 0, 100, true},
		{0, 100, 50, -10, false},
		{50, 10, 100, -60, false},
		{-10, 20, 0, 1, true},
		{-10, 10, 0, 1, false},
		{0, math.MaxInt, math.MaxInt, 1, false},
		{1, math.MaxInt, math.MaxInt, 1, true},
		{math.MaxInt, math.MaxInt, math.MaxInt, 1, true},
		{math.MaxInt, math.MaxInt, math.MinInt, math.MaxInt, false},
		{math.MinInt, math.MaxInt, -1, 1, false},
		{math.MinInt, math.MaxInt, -2, 1, true},
		{math.MinInt, math.MaxInt, math.MaxInt, math.MaxInt, false},
	} {
		if got := place.Meet(c.a, c.na, c.b, c.nb); got != c.want {
			t.Errorf("Meet(%d, %d, %d, %d): %v", c.a, c.na, c.b, c.nb, got)
		}
	}
}

// common tells the same with numbers that have no end.
func common(a, na, b, nb int) bool {
	if na < 1 || nb < 1 {
		return false
	}
	end := func(at, n int) *big.Int {
		return new(big.Int).Add(big.NewInt(int64(at)), big.NewInt(int64(n)))
	}
	return big.NewInt(int64(a)).Cmp(end(b, nb)) < 0 && big.NewInt(int64(b)).Cmp(end(a, na)) < 0
}

func TestMeetAtAllEdges(t *testing.T) {
	edges := []int{math.MinInt, math.MinInt + 1, math.MinInt / 2, -highest, -65, -64, -2, -1, 0, 1, 2, 3, 63, 64, 65, highest, math.MaxInt / 2, math.MaxInt/2 + 1, math.MaxInt - 1, math.MaxInt}
	for _, a := range edges {
		for _, na := range edges {
			for _, b := range edges {
				for _, nb := range edges {
					if got := place.Meet(a, na, b, nb); got != common(a, na, b, nb) {
						t.Fatalf("Meet(%d, %d, %d, %d): %v", a, na, b, nb, got)
					}
				}
			}
		}
	}
	for a := range 8 {
		for na := -1; na < 8; na++ {
			for b := range 8 {
				for nb := -1; nb < 8; nb++ {
					one := false
					for x := a; x < a+na; x++ {
						one = one || x >= b && x < b+nb
					}
					if got := place.Meet(a, na, b, nb); got != one {
						t.Fatalf("Meet(%d, %d, %d, %d): %v", a, na, b, nb, got)
					}
				}
			}
		}
	}
}

func TestRound(t *testing.T) {
	for _, c := range [][2]int{
		{0, 0}, {1, 64}, {63, 64}, {64, 64}, {65, 128}, {127, 128}, {128, 128}, {129, 192}, {4096, 4096}, {4097, 4160},
		{-1, 0}, {-63, 0}, {-64, 0}, {-65, 0}, {-highest, 0}, {math.MinInt, 0}, {math.MinInt + 1, 0},
		{highest - 128, highest - 128}, {highest - 127, highest - 64}, {highest - 64, highest - 64}, {highest - 63, highest}, {highest - 1, highest}, {highest, highest},
		{highest + 1, highest}, {highest + 64, highest}, {highest + 65, highest}, {1 << 62, highest}, {1<<62 + 1, highest}, {math.MaxInt - 64, highest}, {math.MaxInt - 63, highest}, {math.MaxInt, highest},
	} {
		if got := place.Round(c[0]); got != c[1] {
			t.Errorf("Round(%d): %d, want %d", c[0], got, c[1])
		}
	}
	for size := range 5000 {
		got := place.Round(size)
		if got%64 != 0 || got < size || got-size >= 64 {
			t.Fatalf("Round(%d): %d", size, got)
		}
	}
}

func TestFreeExamples(t *testing.T) {
	l := []api.Want{w(100, 128), w(64, 128), w(64, 0)}
	at := []int{128, 0, 64}
	goes(t, l, at, 0, 4096, 1, 256)
	goes(t, l, at[:2], 0, 4096, 1, 64)
	goes(t, l, at[:2], 0, 4096, 64, 64)
	goes(t, l, at[:2], 0, 4096, 65, 256)
	goes(t, l, at[:1], 0, 4096, 64, 0)
	goes(t, l, at[:1], 0, 4096, 65, 0)
	goes(t, l, at[:1], 0, 4096, 128, 0)
	goes(t, l, at[:1], 0, 4096, 129, 256)
	goes(t, l, nil, 0, 4096, 4096, 0)
	goes(t, l, []int{}, 64, 4096, 1, 64)
	goes(t, l, at, 0, 256, 1, -1)
	goes(t, l, at, 0, 320, 64, 256)
	goes(t, l, at, 0, 320, 65, -1)
	goes(t, l, at, 0, 4096, 4096-256, 256)
	goes(t, l, at, 0, 4096, 4096-255, -1)
	// What counts are the places at which they were put, not those that they like, in whichever order.
	goes(t, l, []int{0, 192, 128}, 0, 256, 1, -1)
	goes(t, l, []int{64, 192, 256}, 0, 256, 1, 0)
	goes(t, l, []int{1024, 0, 512}, 0, 4096, 448, 64)
	goes(t, l, []int{1024, 0, 512}, 0, 4096, 449, 1152)
}

// TestFreeOfSizes has sizes that are none, that are rounded, and that are greater than all that there is.
func TestFreeOfSizes(t *testing.T) {
	for _, size := range []int{0, -1, -63, -64, -65, -highest, math.MinInt} {
		goes(t, nil, nil, 0, 4096, size, -1)
		goes(t, []api.Want{w(64, 0)}, []int{0}, 0, 4096, size, -1)
		goes(t, nil, nil, 0, 0, size, -1)
	}
	for size := 1; size < 300; size++ {
		want := -1
		if size <= 256 {
			want = 64
		}
		goes(t, nil, nil, 64, 320, size, want)
	}
	for _, size := range []int{highest - 64, highest - 63, highest} {
		goes(t, nil, nil, 0, highest, size, 0)
	}
	goes(t, nil, nil, 64, highest, highest-64, 64)
	goes(t, nil, nil, 64, highest, highest-63, -1)
	goes(t, nil, nil, 0, highest-64, highest, -1)
	// Of a size above 2^40 Round tells 2^40.
	for _, size := range []int{highest + 1, math.MaxInt} {
		goes(t, nil, nil, 0, highest, size, 0)
		goes(t, nil, nil, 64, highest, size, -1)
		goes(t, []api.Want{w(1, 0)}, []int{0}, 0, highest, size, -1)
	}
}

// TestFreeOutsideOfTheRoom has things that were placed where the room isn't, or is in part.
func TestFreeOutsideOfTheRoom(t *testing.T) {
	l := []api.Want{w(256, 0)}
	for at := 0; at <= 2048; at += 64 {
		for _, size := range []int{1, 64, 65, 128, 256, 300, 512, 1024} {
			want, ok := slow(l, []int{at}, 512, 1024, whole(size))
			if !ok {
				want = -1
			}
			goes(t, l, []int{at}, 512, 1024, size, want)
		}
	}
	far := []int{highest, highest + 64, 1 << 62, math.MaxInt - 63}
	for _, at := range far {
		goes(t, []api.Want{w(highest, 0)}, []int{at}, 0, highest, highest, 0)
		goes(t, []api.Want{w(highest, 0), w(64, 0)}, []int{at, 0}, 0, 4096, 1, 64)
	}
	goes(t, []api.Want{w(highest, 0)}, []int{64}, 0, highest, 1, 0)
	goes(t, []api.Want{w(highest, 0)}, []int{64}, 0, highest, 65, -1)
	goes(t, []api.Want{w(highest, 0)}, []int{0}, 0, highest, 1, -1)
	goes(t, []api.Want{w(1, 0)}, []int{highest - 64}, highest-128, highest, 64, highest-128)
}

// TestFreeFollowsAll asks where the next thing goes, and that All puts it there.
func TestFreeFollowsAll(t *testing.T) {
	g := draws(132)
	for range 5000 {
		l := g.wants(1+g.upTo(12), 1+g.upTo(4), 1+g.upTo(40))
		low := g.upTo(6) * page
		high := low + g.upTo(50)*page
		at, err := place.All(l, low, high)
		if err != 0 {
			continue
		}
		for n := range len(l) + 1 {
			for _, size := range []int{1, 64, 65, 128, 129, 500} {
				goesAlike(t, l, at[:n], low, high, size)
				want, ok := slow(l, at[:n], low, high, whole(size))
				more, err := place.All(append(slices.Clone(l[:n]), w(size, 0)), low, high)
				if ok != (err == 0) || ok && more[n] != want {
					t.Fatalf("All puts %v and %d bytes in %d to %d to %v, %d; want %d %v", l[:n], size, low, high, more, err, want, ok)
				}
			}
		}
	}
}

// TestFreeOfAnyPlaces has things that All would never put so: they meet, and are outside of the room.
func TestFreeOfAnyPlaces(t *testing.T) {
	g := draws(133)
	for range 20000 {
		l := g.wants(g.upTo(10), 1+g.upTo(6), 8)
		at := make([]int, g.upTo(len(l)+1))
		for i := range at {
			at[i] = g.upTo(40) * page
		}
		low := g.upTo(12) * page
		high := low + g.upTo(24)*page
		size := 1 + g.upTo(6*page)
		want, ok := slow(l, at, low, high, whole(size))
		if !ok {
			want = -1
		}
		goes(t, l, at, low, high, size, want)
	}
}

// P13.3

// TestWhatFollows asks of places alone what must be so of each.
func TestWhatFollows(t *testing.T) {
	g := draws(134)
	told := 0
	for range 3000 {
		l := g.wants(1+g.upTo(40), 1+g.upTo(8), 1+g.upTo(100))
		low := g.upTo(20) * page
		high := low + g.upTo(300)*page
		at, err := place.All(l, low, high)
		if err != 0 {
			continue
		}
		told++
		if len(at) != len(l) {
			t.Fatalf("%d things have %d places", len(l), len(at))
		}
		for i, from := range at {
			size := whole(l[i].Size)
			if from%page != 0 || from < low || from+size > high {
				t.Fatalf("%d bytes are put at %d, in %d to %d", l[i].Size, from, low, high)
			}
			for j := range i {
				if place.Meet(from, size, at[j], whole(l[j].Size)) {
					t.Fatalf("%v at %d meets %v at %d", l[i], from, l[j], at[j])
				}
			}
			if from == l[i].Slot && from != 0 {
				continue
			}
			for lower := low; lower < from; lower += page {
				if free(l, at[:i], low, high, lower, size) {
					t.Fatalf("%v is put at %d, but could be at %d", l[i], from, lower)
				}
			}
		}
	}
	if told < 1000 {
		t.Fatalf("only %d were told", told)
	}
}

// R3

func TestWhatIsHandedInStays(t *testing.T) {
	l := append(make([]api.Want, 0, 8), w(100, 128), w(64, 128), w(64, 0))
	at := append(make([]int, 0, 8), 128, 0, 64)
	place.All(l, 0, 4096)
	place.All(l, 0, 128)
	place.Free(l, at, 0, 4096, 100)
	if !slices.Equal(l[:4], []api.Want{w(100, 128), w(64, 128), w(64, 0), {}}) || !slices.Equal(at[:4], []int{128, 0, 64, 0}) {
		t.Fatalf("what was handed in is %v, %v", l[:4], at[:4])
	}
}

func TestWhatIsToldIsItsOwners(t *testing.T) {
	l := []api.Want{w(100, 128), w(64, 128), w(64, 0)}
	one, _ := place.All(l, 0, 4096)
	two, _ := place.All(l, 0, 4096)
	one[0], l[1] = 7, w(1, 0)
	one = append(one[:1], 8)
	if !slices.Equal(two, []int{128, 0, 64}) || one[1] != 8 {
		t.Fatalf("what was told is %v", two)
	}
	l[1] = w(64, 128)
	tells(t, l, 0, 4096, 128, 0, 64)
}

// P1

// TestNothingPanics has places that are no whole pages, or below 0, more places than things, and things that may not be: of these only that the calls end is promised.
func TestNothingPanics(t *testing.T) {
	edges := []int{math.MinInt, math.MinInt + 1, -highest, -65, -64, -1, 0, 1, 63, 64, 100, highest - 1, highest, highest + 1, math.MaxInt - 63, math.MaxInt}
	for _, size := range edges {
		for _, at := range edges {
			for _, n := range edges {
				for _, ends := range [][2]int{{0, 0}, {0, 64}, {0, 4096}, {64, highest}, {0, highest}, {64, 0}, {-64, 64}, {0, math.MaxInt}} {
					l := []api.Want{w(size, at), w(at, n), w(n, size)}
					place.All(l, ends[0], ends[1])
					place.Free(l, []int{at, n, size}, ends[0], ends[1], n)
					place.Free(l, []int{n, n, at, at, size}, ends[0], ends[1], size)
					place.Free(nil, []int{at}, ends[0], ends[1], n)
				}
			}
		}
	}
	goes(t, nil, []int{0, 64, 128}, 0, 4096, 1, 0)
	goes(t, []api.Want{w(64, 0)}, []int{0, 64, 128}, 0, 4096, 1, 64)
}
