package fault_test

import (
	"math"
	"slices"
	"testing"

	"flyleaf/api"
	"flyleaf/fault"
)

// The numbers are written out: a test that asked api for them would follow it if it were wrong.
const (
	permExec  = 1
	permWrite = 2
	permRead  = 4

	ofFile  = 1
	ofZero  = 2
	ofHeap  = 3
	ofStack = 4

	useLoad  = 1
	useStore = 2
	useFetch = 3

	actGo   = 1
	actDeny = 2
	actFill = 3
	actZero = 4
	actIn   = 5
	actCopy = 6
	actOwn  = 7
)

// edges are numbers of int that are neither a use nor an act.
var edges = []int{math.MinInt, math.MinInt + 1, math.MinInt + 2, -1 << 32, 1 - 1<<32, -1 << 31, -64, -8, -7, -3, -2, -1, 0, 8, 9, 63, 64, 65, 1 << 8, 1<<8 + 1, 1 << 31, 1 << 32, 1<<32 + 1, 1<<32 + 2, 1<<32 + 3, math.MaxInt - 1, math.MaxInt}

// holds are how often a frame or a slot may be said to be held.
var holds = []int{math.MinInt, -1 << 32, -2, -1, 0, 1, 2, 3, 4, 32, 1 << 32, math.MaxInt}

// allowed says of each Perm, from 0 to 7, which uses it allows: a load, a store, a fetch.
var allowed = [8][3]bool{
	{false, false, false},
	{false, false, true},
	{false, true, false},
	{false, true, true},
	{true, false, false},
	{true, false, true},
	{true, true, false},
	{true, true, true},
}

// allows is the model of Allows, of a Perm from 0 to 7.
func allows(perm, use int) bool {
	return use >= 1 && use <= 3 && allowed[perm][use-1]
}

// decide is the model of Decide, in the chapter's order.
func decide(r api.Region, there bool, s api.Slot, use, shared int) int {
	if !there {
		return actDeny
	}
	if !allows(r.Perm, use) {
		return actDeny
	}
	if !s.Here && !s.Out {
		if r.Kind == ofFile {
			return actFill
		}
		return actZero
	}
	if s.Out {
		return actIn
	}
	if use == useStore && !s.Write {
		if shared > 1 {
			return actCopy
		}
		if !s.Copy {
			return actCopy
		}
		return actOwn
	}
	return actGo
}

// entry is the model of Entry.
func entry(r api.Region, act, n int) api.Slot {
	own := api.Slot{Here: true, Copy: true, N: n}
	if r.Perm == 2 || r.Perm == 3 || r.Perm == 6 || r.Perm == 7 {
		own = api.Slot{Here: true, Write: true, N: n}
	}
	return map[int]api.Slot{actFill: {Here: true, N: n}, actZero: own, actIn: own, actCopy: own, actOwn: own}[act]
}

// steps is the model of Steps: no more than so many of them.
func steps(r api.Region, there bool, s api.Slot, use, shared, most int) []int {
	act := decide(r, there, s, use, shared)
	if act == actGo || act == actDeny || most == 1 {
		return []int{act}
	}
	shared = 1
	if act == actFill {
		shared = 2
	}
	return append([]int{act}, steps(r, there, entry(r, act, 0), use, shared, most-1)...)
}

// slots are all entries of the frame or slot n.
func slots(n int) []api.Slot {
	l := []api.Slot{}
	for i := range 16 {
		l = append(l, api.Slot{Here: i&1 > 0, Write: i&2 > 0, Copy: i&4 > 0, Out: i&8 > 0, N: n})
	}
	return l
}

// regions are those of each Perm and each kind, and of kinds that there aren't.
func regions() []api.Region {
	l := []api.Region{}
	for perm := range 8 {
		for kind := -1; kind < 7; kind++ {
			l = append(l, api.Region{From: 2, To: 9, Perm: perm, Kind: kind, File: -1})
		}
		l = append(l, api.Region{From: 0, To: 4096, Perm: perm, Kind: ofFile, File: 3, Page: 5})
		for _, kind := range edges {
			l = append(l, api.Region{From: 2, To: 9, Perm: perm, Kind: kind, File: 1})
		}
	}
	return l
}

// asks asks Decide and Steps what the model tells.
func asks(t *testing.T, r api.Region, there bool, s api.Slot, use, shared int) {
	t.Helper()
	if got, want := fault.Decide(r, there, s, use, shared), decide(r, there, s, use, shared); got != want {
		t.Fatalf("Decide(%v, %v, %v, %d, %d): %d, want %d", r, there, s, use, shared, got, want)
	}
	if got, want := fault.Steps(r, there, s, use, shared), steps(r, there, s, use, shared, 8); !slices.Equal(got, want) {
		t.Fatalf("Steps(%v, %v, %v, %d, %d): %v, want %v", r, there, s, use, shared, got, want)
	}
}

func TestLimits(t *testing.T) {
	got := []int{
		api.PermExec, api.PermWrite, api.PermRead, api.KindFile, api.KindZero, api.KindHeap, api.KindStack, api.UseLoad, api.UseStore, api.UseFetch,
		api.ActGo, api.ActDeny, api.ActFill, api.ActZero, api.ActIn, api.ActCopy, api.ActOwn,
	}
	want := []int{
		permExec, permWrite, permRead, ofFile, ofZero, ofHeap, ofStack, useLoad, useStore, useFetch,
		actGo, actDeny, actFill, actZero, actIn, actCopy, actOwn,
	}
	if !slices.Equal(got, want) {
		t.Fatalf("the numbers of api: %v, want %v", got, want)
	}
}

// P16.1: is a use allowed?

func TestAllows(t *testing.T) {
	for perm := range 8 {
		for use := 1; use < 4; use++ {
			if got, want := fault.Allows(perm, use), allowed[perm][use-1]; got != want {
				t.Errorf("Allows(%d, %d): %v, want %v", perm, use, got, want)
			}
		}
	}
}

func TestAllowsOneEach(t *testing.T) {
	for _, one := range []struct{ perm, use int }{{permRead, useLoad}, {permWrite, useStore}, {permExec, useFetch}} {
		if !fault.Allows(one.perm, one.use) {
			t.Errorf("Allows(%d, %d): false, though that Perm is what it asks for", one.perm, one.use)
		}
		if fault.Allows(7-one.perm, one.use) {
			t.Errorf("Allows(%d, %d): true, though that Perm is what it lacks", 7-one.perm, one.use)
		}
	}
}

func TestAllowsNoSuchUse(t *testing.T) {
	for perm := range 8 {
		for _, use := range append([]int{4, 5, 6, 7}, edges...) {
			if fault.Allows(perm, use) {
				t.Errorf("Allows(%d, %d): true, though there is no such use", perm, use)
			}
		}
	}
}

// P16.1: what is decided.

func TestDecide(t *testing.T) {
	file := api.Region{From: 0, To: 4, Perm: 7, Kind: ofFile, File: 2, Page: 10}
	zero := api.Region{From: 0, To: 4, Perm: 7, Kind: ofZero, File: -1}
	heap := api.Region{From: 0, To: 4, Perm: 7, Kind: ofHeap, File: -1}
	stack := api.Region{From: 0, To: 4, Perm: 7, Kind: ofStack, File: -1}
	reads := api.Region{From: 0, To: 4, Perm: 4, Kind: ofFile, File: 2}
	none, fileOwn := api.Slot{}, api.Slot{Here: true, N: 1}
	own, toCopy := api.Slot{Here: true, Write: true, N: 1}, api.Slot{Here: true, Copy: true, N: 1}
	out, both := api.Slot{Out: true, N: 1}, api.Slot{Here: true, Write: true, Out: true, N: 1}
	for _, l := range []struct {
		what        string
		r           api.Region
		there       bool
		s           api.Slot
		use, shared int
		want        int
	}{
		{"no region", file, false, own, useLoad, 1, actDeny},
		{"no region, and none said", api.Region{}, false, none, useLoad, 0, actDeny},
		{"a store where reads alone are allowed", reads, true, own, useStore, 1, actDeny},
		{"a fetch where reads alone are allowed", reads, true, none, useFetch, 0, actDeny},
		{"a store to a page that is out, not allowed", reads, true, out, useStore, 1, actDeny},
		{"no such use", file, true, own, 0, 1, actDeny},
		{"no such use, the next one", file, true, own, 4, 1, actDeny},
		{"a load, nothing there, of a file", file, true, none, useLoad, 0, actFill},
		{"a store, nothing there, of a file", file, true, none, useStore, 0, actFill},
		{"a load, nothing there, of zeros", zero, true, none, useLoad, 0, actZero},
		{"a store, nothing there, of a heap", heap, true, none, useStore, 0, actZero},
		{"a fetch, nothing there, of a stack", stack, true, none, useFetch, 0, actZero},
		{"a load, out", zero, true, out, useLoad, 1, actIn},
		{"a load, out, of a file", file, true, out, useLoad, 1, actIn},
		{"a store, out", zero, true, out, useStore, 3, actIn},
		{"a store, out and here, too", zero, true, both, useStore, 1, actIn},
		{"a load, out and here, too", zero, true, both, useLoad, 1, actIn},
		{"a store to a file's own page", file, true, fileOwn, useStore, 2, actCopy},
		{"a store to a file's own page that is held once", file, true, fileOwn, useStore, 1, actCopy},
		{"a store to a page that is shared", zero, true, toCopy, useStore, 2, actCopy},
		{"a store to a page that nobody shares any more", zero, true, toCopy, useStore, 1, actOwn},
		{"a store to a page of the program's own", zero, true, own, useStore, 1, actGo},
		{"a store to a page of the program's own, though it is shared", zero, true, own, useStore, 2, actGo},
		{"a load of a page that is shared", zero, true, toCopy, useLoad, 2, actGo},
		{"a load of a file's own page", file, true, fileOwn, useLoad, 2, actGo},
		{"a fetch of a file's own page", file, true, fileOwn, useFetch, 2, actGo},
	} {
		if got := fault.Decide(l.r, l.there, l.s, l.use, l.shared); got != l.want {
			t.Errorf("Decide of %s: %d, want %d", l.what, got, l.want)
		}
	}
}

func TestDecideAll(t *testing.T) {
	for _, r := range regions() {
		for _, s := range slots(9) {
			for use := -1; use < 6; use++ {
				for _, shared := range holds {
					asks(t, r, true, s, use, shared)
					asks(t, r, false, s, use, shared)
				}
			}
		}
	}
}

func TestDecideNoSuchUse(t *testing.T) {
	for perm := range 8 {
		for _, s := range slots(1) {
			for _, use := range edges {
				asks(t, api.Region{From: 0, To: 1, Perm: perm, Kind: ofFile}, true, s, use, 1)
			}
		}
	}
}

// Which frame or slot it is, and which pages the region has, isn't asked.
func TestDecideNumbers(t *testing.T) {
	for _, n := range edges {
		for kind := 1; kind < 5; kind++ {
			for perm := range 8 {
				for _, s := range slots(n) {
					for use := 1; use < 4; use++ {
						asks(t, api.Region{From: n, To: 5, Perm: perm, Kind: kind}, true, s, use, 1)
						asks(t, api.Region{From: 5, To: n, Perm: perm, Kind: kind}, true, s, use, 2)
						asks(t, api.Region{From: 1, To: 5, Perm: perm, Kind: kind, File: n}, true, s, use, 1)
						asks(t, api.Region{From: 1, To: 5, Perm: perm, Kind: kind, Page: n}, true, s, use, 2)
					}
				}
			}
		}
	}
}

// P16.2: the entries that pages have behind acts.

func TestEntry(t *testing.T) {
	reads := api.Region{From: 0, To: 4, Perm: permRead, Kind: ofZero, File: -1}
	writes := api.Region{From: 0, To: 4, Perm: permWrite, Kind: ofZero, File: -1}
	for _, act := range []int{actZero, actIn, actCopy, actOwn} {
		if got, want := fault.Entry(writes, act, 5), (api.Slot{Here: true, Write: true, N: 5}); got != want {
			t.Errorf("Entry of act %d where writes are allowed: %v, want %v", act, got, want)
		}
		if got, want := fault.Entry(reads, act, 5), (api.Slot{Here: true, Copy: true, N: 5}); got != want {
			t.Errorf("Entry of act %d where no writes are allowed: %v, want %v", act, got, want)
		}
	}
	for _, r := range []api.Region{reads, writes} {
		if got, want := fault.Entry(r, actFill, 5), (api.Slot{Here: true, N: 5}); got != want {
			t.Errorf("Entry(%v, 3, 5): %v, want %v", r, got, want)
		}
		for _, act := range []int{actGo, actDeny} {
			if got := fault.Entry(r, act, 5); got != (api.Slot{}) {
				t.Errorf("Entry(%v, %d, 5): %v, want nothing", r, act, got)
			}
		}
	}
}

func TestEntryAll(t *testing.T) {
	for _, r := range regions() {
		for _, act := range append([]int{1, 2, 3, 4, 5, 6, 7}, edges...) {
			for _, n := range append([]int{1, 5, 4095}, edges...) {
				if got, want := fault.Entry(r, act, n), entry(r, act, n); got != want {
					t.Fatalf("Entry(%v, %d, %d): %v, want %v", r, act, n, got, want)
				}
			}
		}
	}
}

func TestNeeds(t *testing.T) {
	for act, want := range []bool{actZero: true, actIn: true, actCopy: true, actOwn: false} {
		if got := fault.Needs(act); got != want {
			t.Errorf("Needs(%d): %v, want %v", act, got, want)
		}
	}
	for _, act := range edges {
		if fault.Needs(act) {
			t.Errorf("Needs(%d): true, though there is no such act", act)
		}
	}
}

// P16.3: what is done, one behind the other. (All steps are asked by asks, too.)

func TestSteps(t *testing.T) {
	file := api.Region{From: 0, To: 4, Perm: permRead + permWrite, Kind: ofFile, File: 2, Page: 10}
	zero := api.Region{From: 0, To: 4, Perm: permRead + permWrite, Kind: ofZero, File: -1}
	text := api.Region{From: 0, To: 4, Perm: permRead + permExec, Kind: ofFile, File: 2}
	none, fileOwn := api.Slot{}, api.Slot{Here: true, N: 1}
	own, toCopy := api.Slot{Here: true, Write: true, N: 1}, api.Slot{Here: true, Copy: true, N: 1}
	out := api.Slot{Out: true, N: 1}
	for _, l := range []struct {
		what        string
		r           api.Region
		there       bool
		s           api.Slot
		use, shared int
		want        []int
	}{
		{"a store to a page of a file that is not there", file, true, none, useStore, 0, []int{3, 6, 1}},
		{"a load of a page of a file that is not there", file, true, none, useLoad, 0, []int{3, 1}},
		{"a fetch of a page of a file that is not there", text, true, none, useFetch, 0, []int{3, 1}},
		{"a store to a page of zeros that is not there", zero, true, none, useStore, 0, []int{4, 1}},
		{"a load of a page of zeros that is not there", zero, true, none, useLoad, 0, []int{4, 1}},
		{"a store to a page that is out", zero, true, out, useStore, 1, []int{5, 1}},
		{"a store to a page that is out, shared", file, true, out, useStore, 2, []int{5, 1}},
		{"a fetch of a page that is out", text, true, out, useFetch, 1, []int{5, 1}},
		{"a store to a file's own page", file, true, fileOwn, useStore, 2, []int{6, 1}},
		{"a store to a page that is shared", zero, true, toCopy, useStore, 2, []int{6, 1}},
		{"a store to a page that nobody shares", zero, true, toCopy, useStore, 1, []int{7, 1}},
		{"a store to a page of the program's own", zero, true, own, useStore, 1, []int{1}},
		{"a load of a page that is shared", zero, true, toCopy, useLoad, 2, []int{1}},
		{"a store to a text", text, true, none, useStore, 0, []int{2}},
		{"a fetch of zeros", zero, true, own, useFetch, 1, []int{2}},
		{"a load of no region", file, false, none, useLoad, 0, []int{2}},
		{"no such use", file, true, none, 0, 0, []int{2}},
	} {
		if got := fault.Steps(l.r, l.there, l.s, l.use, l.shared); !slices.Equal(got, l.want) {
			t.Errorf("Steps of %s: %v, want %v", l.what, got, l.want)
		}
	}
}

// goes goes the steps one by one with Decide and Entry, and counts as the chapter says.
func goes(r api.Region, there bool, s api.Slot, use, shared int) []int {
	told := []int{}
	for range 8 {
		act := fault.Decide(r, there, s, use, shared)
		told = append(told, act)
		if act == actGo || act == actDeny {
			break
		}
		s, shared = fault.Entry(r, act, 0), map[bool]int{true: 2, false: 1}[act == actFill]
	}
	return told
}

func TestStepsAreDecided(t *testing.T) {
	for _, r := range regions() {
		for _, s := range slots(0) {
			for use := range 5 {
				for shared := range 4 {
					if got, want := fault.Steps(r, true, s, use, shared), goes(r, true, s, use, shared); !slices.Equal(got, want) {
						t.Fatalf("Steps(%v, true, %v, %d, %d): %v, but step by step it is %v", r, s, use, shared, got, want)
					}
				}
			}
		}
	}
}

// R3: what is told is its owner's.
func TestStepsMemory(t *testing.T) {
	r := api.Region{From: 0, To: 4, Perm: 7, Kind: ofFile, File: 2}
	first := fault.Steps(r, true, api.Slot{}, useStore, 0)
	second := fault.Steps(r, true, api.Slot{}, useStore, 0)
	for i := range first {
		first[i] = 99
	}
	_ = append(first[:0], 98, 97, 96)
	third := fault.Steps(r, true, api.Slot{}, useStore, 0)
	for _, l := range [][]int{second, third} {
		if !slices.Equal(l, []int{3, 6, 1}) {
			t.Fatalf("Steps, behind a change of what was told: %v, want [3 6 1]", l)
		}
	}
}

// P16.4: what follows.

func TestFewSteps(t *testing.T) {
	for _, r := range regions() {
		for _, s := range slots(4095) {
			for use := -1; use < 6; use++ {
				for _, shared := range holds {
					l := fault.Steps(r, true, s, use, shared)
					denied := !fault.Allows(r.Perm, use)
					switch last := slices.Index([]int{actGo, actDeny}, l[len(l)-1]); {
					case len(l) > 4, last < 0, denied && !slices.Equal(l, []int{actDeny}), !denied && last == 1:
						t.Fatalf("Steps(%v, true, %v, %d, %d): %v, of at most four, denied %v", r, s, use, shared, l, denied)
					}
					if l := fault.Steps(r, false, s, use, shared); !slices.Equal(l, []int{actDeny}) {
						t.Fatalf("Steps(%v, false, %v, %d, %d): %v, want [2]", r, s, use, shared, l)
					}
				}
			}
		}
	}
}

// P1: of a Perm that there isn't nothing is said but that each call ends, and that no use takes more than four steps.
func TestNoSuchPerm(t *testing.T) {
	for _, perm := range edges {
		for _, use := range append([]int{1, 2, 3, 4}, edges...) {
			fault.Allows(perm, use)
			for _, s := range slots(perm) {
				for _, kind := range append([]int{1, 2, 3, 4}, edges...) {
					r := api.Region{From: perm, To: use, Perm: perm, Kind: kind, File: perm, Page: use}
					fault.Decide(r, true, s, use, perm)
					fault.Entry(r, use, perm)
					if l := fault.Steps(r, true, s, use, perm); len(l) > 4 {
						t.Fatalf("Steps(%v, true, %v, %d, %d): %v, of at most four", r, s, use, perm, l)
					}
				}
			}
		}
	}
}

// Drawn numbers, each from a few that matter: all calls as the model tells them.

type draws uint64

func (d *draws) upTo(n int) int {
	*d = *d*6364136223846793005 + 1442695040888963407
	return int(uint64(*d) >> 33 % uint64(n))
}

func TestDrawn(t *testing.T) {
	d := draws(16)
	for range 200000 {
		r := api.Region{From: d.upTo(5000), To: d.upTo(5000), Perm: d.upTo(8), Kind: d.upTo(6), File: d.upTo(4) - 1, Page: d.upTo(3)}
		s := api.Slot{Here: d.upTo(2) > 0, Write: d.upTo(2) > 0, Copy: d.upTo(2) > 0, Out: d.upTo(3) > 1, N: d.upTo(4096)}
		asks(t, r, d.upTo(8) > 0, s, d.upTo(5), d.upTo(5))
		act, n := d.upTo(9), d.upTo(4096)
		if got, want := fault.Entry(r, act, n), entry(r, act, n); got != want {
			t.Fatalf("Entry(%v, %d, %d): %v, want %v", r, act, n, got, want)
		}
	}
}
