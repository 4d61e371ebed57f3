package cache_test

import (
	"math"
	"slices"
	"strconv"
	"strings"
	"testing"

	"flyleaf/api"
	"flyleaf/block"
	"flyleaf/cache"
	"flyleaf/files"
	"flyleaf/frames"
)

// The numbers are written out: a test that asked api for them would follow it if it were wrong.
const (
	page = 64
	most = 4096
)

// edges are numbers of int of which there is no file and no page; of some of them the place of the bytes, at 64 each, wraps round to one that there is.
var edges = []int{
	math.MinInt, math.MinInt + 1, -1 << 58, -1<<58 + 1, math.MinInt32, -65, -64, -2, -1,
	1 << 14, 1 << 32, 1 << 57, 1 << 58, 1<<58 + 1, 1 << 62, math.MaxInt - 1, math.MaxInt,
}

// some are files at the ends of pages. No two of their pages have the same bytes.
var some = []api.File{
	{Name: "a", Data: bytes(1, 3*page)},
	{Name: "empty"},
	{Name: "b", Data: bytes(2, 2*page+1)},
	{Name: "c", Data: bytes(3, page-1)},
	{Name: "d", Data: bytes(4, 1)},
}

// bytes is a text of n bytes that tell their place, and whose they are; none is 0.
func bytes(seed, n int) string {
	b := make([]byte, n)
	for i := range b {
		b[i] = byte(1 + (seed*37+i*5+i/page*11)%255)
	}
	return string(b)
}

// long is a file of so many pages, each of which tells its number.
func long(pages int) []api.File {
	s := strings.Builder{}
	for i := range pages {
		n := strconv.Itoa(i)
		s.WriteString(n + strings.Repeat(".", page-len(n)))
	}
	return []api.File{{Name: "long", Data: s.String()}}
}

// disk is one with these files.
func disk(t *testing.T, l []api.File) *block.Disk {
	t.Helper()
	s, err := files.Build(l, 1)
	if err != api.OK {
		t.Fatalf("Build: %d", err)
	}
	return block.Of(s...)
}

// opened is the files of a disk.
func opened(t *testing.T, d *block.Disk) *files.Files {
	t.Helper()
	f, err := files.Open(d)
	if err != api.OK {
		t.Fatalf("Open: %d", err)
	}
	return f
}

// pool is one of n frames, all free.
func pool(t *testing.T, n int) *frames.Pool {
	t.Helper()
	p := frames.New(n)
	if p == nil {
		t.Fatalf("New(%d): nil", n)
	}
	return p
}

// entry is a page of the model's ring.
type entry struct {
	key   api.Key
	frame int
	fresh bool
}

// model is what the chapter's words say of a cache, with the pool that it is over: the hand is the page at which it stands.
type model struct {
	files       []api.File
	held        []int
	ring        []*entry
	hand        *entry
	hits, fills int
}

// page is what a file's page has, if there is one.
func (m *model) page(k api.Key) (string, bool) {
	if k.File < 0 || k.File >= len(m.files) || k.Page < 0 {
		return "", false
	}
	rest := m.files[k.File].Data
	for i := 0; i < k.Page && rest != ""; i++ {
		rest = rest[min(page, len(rest)):]
	}
	s := rest[:min(page, len(rest))]
	return s + strings.Repeat("\x00", page-len(s)), s != ""
}

// take is the least free frame, held once.
func (m *model) take() (int, api.Errno) {
	f := slices.Index(m.held, 0)
	if f < 0 {
		return 0, api.ErrMem
	}
	m.held[f] = 1
	return f, api.OK
}

// find is a page that is there, or nil.
func (m *model) find(k api.Key) *entry {
	for _, e := range m.ring {
		if e.key == k {
			return e
		}
	}
	return nil
}

// get is the model of Get.
func (m *model) get(k api.Key) (int, api.Errno) {
	if _, ok := m.page(k); !ok {
		return 0, api.ErrRange
	}
	if e := m.find(k); e != nil {
		m.held[e.frame]++
		m.hits++
		e.fresh = true
		return e.frame, api.OK
	}
	f, err := m.take()
	if err != api.OK {
		return 0, err
	}
	m.held[f]++
	m.fills++
	e := &entry{key: k, frame: f}
	m.ring = append(m.ring, e)
	if m.hand == nil {
		m.hand = e
	}
	return f, api.OK
}

// round is the ring from one of its pages on.
func (m *model) round(from *entry) []*entry {
	i := slices.Index(m.ring, from)
	if i < 0 {
		return nil
	}
	return slices.Concat(m.ring[i:], m.ring[:i])
}

// evict is the model of Evict.
func (m *model) evict() (api.Key, bool) {
	round := m.round(m.hand)
	for _, e := range slices.Concat(round, round) {
		if m.held[e.frame] > 1 {
			continue
		}
		if e.fresh {
			e.fresh = false
			continue
		}
		m.goes(e)
		return e.key, true
	}
	return api.Key{}, false
}

// goes has a page go.
func (m *model) goes(e *entry) {
	m.held[e.frame]--
	m.hand = nil
	if round := m.round(e); len(round) > 1 {
		m.hand = round[1]
	}
	m.ring = slices.DeleteFunc(m.ring, func(x *entry) bool { return x == e })
}

// pair is a cache over a pool, and its model, which are asked the same.
type pair struct {
	t *testing.T
	p *frames.Pool
	c *cache.Cache
	m *model
}

// paired is a pair with these files, and n frames.
func paired(t *testing.T, n int, l []api.File) *pair {
	t.Helper()
	x := &pair{t: t, p: pool(t, n), m: &model{files: l, held: make([]int, n)}}
	x.c = cache.New(x.p, opened(t, disk(t, l)))
	if x.c == nil {
		t.Fatal("New: nil")
	}
	x.same()
	return x
}

// get asks for a page.
func (x *pair) get(k api.Key) {
	x.t.Helper()
	w, want := x.m.get(k)
	if f, err := x.c.Get(k); f != w || err != want {
		x.t.Fatalf("Get(%v): %d %d, want %d %d", k, f, err, w, want)
	}
	x.same()
}

// drop has others hold the frame of a page once less, if they do.
func (x *pair) drop(k api.Key) {
	x.t.Helper()
	if e := x.m.find(k); e != nil && x.m.held[e.frame] > 1 {
		x.give(e.frame)
	}
}

// give has others hold a frame once less.
func (x *pair) give(f int) {
	x.t.Helper()
	x.m.held[f]--
	if err := x.p.Drop(f); err != api.OK {
		x.t.Fatalf("Drop(%d): %d", f, err)
	}
	x.same()
}

// hold has others hold the frame of a page once more, past the cache.
func (x *pair) hold(k api.Key) {
	x.t.Helper()
	e := x.m.find(k)
	x.m.held[e.frame]++
	if err := x.p.Hold(e.frame); err != api.OK {
		x.t.Fatalf("Hold(%d): %d", e.frame, err)
	}
	x.same()
}

// take has others take a frame.
func (x *pair) take() {
	x.t.Helper()
	w, want := x.m.take()
	if f, err := x.p.Take(); f != w || err != want {
		x.t.Fatalf("Take: %d %d, want %d %d", f, err, w, want)
	}
	x.same()
}

// evict has a page go.
func (x *pair) evict() bool {
	x.t.Helper()
	w, want := x.m.evict()
	k, ok := x.c.Evict()
	if k != w || ok != want {
		x.t.Fatalf("Evict: %v %v, want %v %v", k, ok, w, want)
	}
	x.same()
	return ok
}

// fills asks for pages that come, and that nobody holds then but the cache.
func (x *pair) fills(l ...api.Key) {
	x.t.Helper()
	for _, k := range l {
		x.get(k)
		x.drop(k)
	}
}

// evicts asks that these pages go, in this order, and then none.
func (x *pair) evicts(l ...api.Key) {
	x.t.Helper()
	for _, w := range l {
		if k, ok := x.c.Evict(); k != w || !ok {
			x.t.Fatalf("Evict: %v %v, want %v", k, ok, w)
		}
		x.m.evict()
		x.same()
	}
	if k, ok := x.c.Evict(); k != (api.Key{}) || ok {
		x.t.Fatalf("Evict: %v %v, want nothing", k, ok)
	}
	x.m.evict()
	x.same()
}

// drain has all pages go: first those that nobody else holds, so that it shows where the hand is, and what is fresh; then the others.
func (x *pair) drain() {
	x.t.Helper()
	for x.evict() {
	}
	for _, e := range slices.Clone(x.m.ring) {
		for x.m.held[e.frame] > 1 {
			x.give(e.frame)
		}
	}
	for x.evict() {
	}
	if x.c.Len() != 0 {
		x.t.Fatalf("%d pages are left", x.c.Len())
	}
}

// same asks that the cache and the pool are as the model says.
func (x *pair) same() {
	x.t.Helper()
	keys := make([]api.Key, 0, len(x.m.ring))
	for _, e := range x.m.ring {
		keys = append(keys, e.key)
		want, _ := x.m.page(e.key)
		if s, err := x.p.Bytes(e.frame); s != want || err != api.OK {
			x.t.Fatalf("Bytes(%d): %q %d, want %q", e.frame, s, err, want)
		}
	}
	if got := x.c.Keys(); !slices.Equal(got, keys) || x.c.Len() != len(keys) {
		x.t.Fatalf("Keys, Len: %v, %d, want %v", got, x.c.Len(), keys)
	}
	if x.c.Hits() != x.m.hits || x.c.Fills() != x.m.fills {
		x.t.Fatalf("Hits, Fills: %d, %d, want %d, %d", x.c.Hits(), x.c.Fills(), x.m.hits, x.m.fills)
	}
	for f, n := range x.m.held {
		if got := x.p.Held(f); got != n {
			x.t.Fatalf("Held(%d): %d, want %d", f, got, n)
		}
	}
	for file := -1; file <= len(x.m.files); file++ {
		for p := -1; p < 5; p++ {
			x.has(api.Key{File: file, Page: p})
		}
	}
}

// has asks whether a page is there.
func (x *pair) has(k api.Key) {
	x.t.Helper()
	w, want := 0, false
	if e := x.m.find(k); e != nil {
		w, want = e.frame, true
	}
	if f, ok := x.c.Has(k); f != w || ok != want {
		x.t.Fatalf("Has(%v): %d %v, want %d %v", k, f, ok, w, want)
	}
}

// allOf is the keys of all pages of files.
func allOf(l []api.File) []api.Key {
	keys := []api.Key{}
	for i, f := range l {
		for at := 0; at < len(f.Data); at += page {
			keys = append(keys, api.Key{File: i, Page: at / page})
		}
	}
	return keys
}

// first is the keys of the first n pages of file 0.
func first(n int) []api.Key {
	keys := []api.Key{}
	for i := range n {
		keys = append(keys, api.Key{Page: i})
	}
	return keys
}

func TestLimits(t *testing.T) {
	if api.Page != page || api.MaxFrames != most {
		t.Fatalf("Page %d, MaxFrames %d", api.Page, api.MaxFrames)
	}
}

// P14.1

func TestNew(t *testing.T) {
	d := disk(t, some)
	p, f := pool(t, 2), opened(t, d)
	if cache.New(nil, f) != nil || cache.New(p, nil) != nil || cache.New(nil, nil) != nil {
		t.Error("New of nil: not nil")
	}
	c := cache.New(p, f)
	if c == nil {
		t.Fatal("New: nil")
	}
	if c.Len() != 0 || len(c.Keys()) != 0 || c.Hits() != 0 || c.Fills() != 0 {
		t.Errorf("Len, Keys, Hits, Fills: %d, %v, %d, %d", c.Len(), c.Keys(), c.Hits(), c.Fills())
	}
	if k, ok := c.Evict(); ok || k != (api.Key{}) {
		t.Errorf("Evict: %v %v", k, ok)
	}
	if p.Free() != 2 {
		t.Errorf("%d frames are free", p.Free())
	}
}

func TestNewOfAPoolOrFilesWithoutAny(t *testing.T) {
	c := cache.New(new(frames.Pool), opened(t, disk(t, some)))
	noPage(t, c, api.Key{}, api.ErrMem)
	noPage(t, c, api.Key{File: 2, Page: 2}, api.ErrMem)
	noPage(t, c, api.Key{File: 2, Page: 3}, api.ErrRange)
	noPage(t, c, api.Key{File: 5}, api.ErrRange)
	p := pool(t, 1)
	noPage(t, cache.New(p, new(files.Files)), api.Key{}, api.ErrRange)
	noPage(t, cache.New(p, opened(t, disk(t, nil))), api.Key{}, api.ErrRange)
	if p.Free() != 1 {
		t.Error("a frame was taken")
	}
}

// noPage asks for a page that can't be got, of a cache without pages.
func noPage(t *testing.T, c *cache.Cache, k api.Key, want api.Errno) {
	t.Helper()
	if f, err := c.Get(k); f != 0 || err != want {
		t.Errorf("Get(%v): %d %d, want 0 %d", k, f, err, want)
	}
	if f, ok := c.Has(k); f != 0 || ok {
		t.Errorf("Has(%v): %d %v", k, f, ok)
	}
	if c.Len() != 0 || len(c.Keys()) != 0 || c.Hits() != 0 || c.Fills() != 0 {
		t.Errorf("Len, Keys, Hits, Fills: %d, %v, %d, %d", c.Len(), c.Keys(), c.Hits(), c.Fills())
	}
}

func TestExample(t *testing.T) {
	p := pool(t, 4)
	c := cache.New(p, opened(t, disk(t, []api.File{{Name: "a", Data: "hello"}})))
	k := api.Key{File: 0, Page: 0}
	for range 2 {
		if f, err := c.Get(k); f != 0 || err != api.OK {
			t.Fatalf("Get: %d %d, want 0 0", f, err)
		}
		if p.Held(0) != 2 {
			t.Fatalf("Held(0): %d, want 2", p.Held(0))
		}
		if err := p.Drop(0); err != api.OK {
			t.Fatalf("Drop: %d", err)
		}
	}
	if got, ok := c.Evict(); got != k || !ok {
		t.Errorf("Evict: %v %v, want %v", got, ok, k)
	}
	if got, ok := c.Evict(); got != (api.Key{}) || ok {
		t.Errorf("Evict: %v %v, want nothing", got, ok)
	}
	if p.Free() != 4 {
		t.Errorf("%d frames are free, want 4", p.Free())
	}
}

func TestGetOfEachPage(t *testing.T) {
	keys := allOf(some)
	for n := 1; n <= len(keys)+1; n++ {
		x := paired(t, n, some)
		for range 3 {
			for _, k := range keys {
				x.get(k)
			}
		}
		x.drain()
	}
}

func TestAFilledFrame(t *testing.T) {
	x := paired(t, 3, some)
	f, err := x.c.Get(api.Key{File: 2, Page: 2})
	if f != 0 || err != api.OK {
		t.Fatalf("Get: %d %d", f, err)
	}
	last := some[2].Data[2*page:] + strings.Repeat("\x00", page-1)
	if s, err := x.p.Bytes(f); s != last || err != api.OK {
		t.Errorf("Bytes: %q %d, want %q", s, err, last)
	}
	if x.p.Held(f) != 2 || x.p.Free() != 2 {
		t.Errorf("Held, Free: %d, %d, want 2, 2", x.p.Held(f), x.p.Free())
	}
	if x.c.Fills() != 1 || x.c.Hits() != 0 || x.c.Len() != 1 {
		t.Errorf("Fills, Hits, Len: %d, %d, %d, want 1, 0, 1", x.c.Fills(), x.c.Hits(), x.c.Len())
	}
}

func TestAFrameThatHadOtherBytes(t *testing.T) {
	x := paired(t, 1, some)
	x.fills(api.Key{File: 0, Page: 0})
	x.evict()
	x.fills(api.Key{File: 4, Page: 0})
	x.evict()
	x.take()
	if err := x.p.Fill(0, strings.Repeat("x", page)); err != api.OK {
		t.Fatalf("Fill: %d", err)
	}
	x.give(0)
	x.fills(api.Key{File: 3, Page: 0})
	x.drain()
}

func TestBehindTheEndOfAFile(t *testing.T) {
	d := disk(t, []api.File{{Name: "a", Data: bytes(1, page+5)}})
	s, _ := d.Read(3)
	if err := d.Write(3, s[:5]+strings.Repeat("x", page-5)); err != api.OK {
		t.Fatalf("Write: %d", err)
	}
	p := pool(t, 1)
	f, err := cache.New(p, opened(t, d)).Get(api.Key{File: 0, Page: 1})
	if err != api.OK {
		t.Fatalf("Get: %d", err)
	}
	want := bytes(1, page+5)[page:] + strings.Repeat("\x00", page-5)
	if got, _ := p.Bytes(f); got != want {
		t.Errorf("Bytes: %q, want %q", got, want)
	}
}

func TestAHit(t *testing.T) {
	x := paired(t, 3, some)
	k := api.Key{File: 2, Page: 1}
	x.take()
	for i := range 5 {
		f, err := x.c.Get(k)
		if f != 1 || err != api.OK {
			t.Fatalf("Get: %d %d, want 1 0", f, err)
		}
		if x.p.Held(1) != 2+i || x.p.Free() != 1 {
			t.Errorf("Held, Free: %d, %d, want %d, 1", x.p.Held(1), x.p.Free(), 2+i)
		}
		if x.c.Fills() != 1 || x.c.Hits() != i || x.c.Len() != 1 {
			t.Errorf("Fills, Hits, Len: %d, %d, %d, want 1, %d, 1", x.c.Fills(), x.c.Hits(), x.c.Len(), i)
		}
		x.m.get(k)
	}
	x.same()
	x.drain()
}

func TestFilesAndPagesAreNotMistaken(t *testing.T) {
	l := []api.File{}
	for i := range 4 {
		l = append(l, api.File{Name: strconv.Itoa(i), Data: bytes(i*7, 4*page)})
	}
	x := paired(t, 16, l)
	x.fills(allOf(l)...)
	x.fills(allOf(l)...)
	if x.c.Len() != 16 || x.c.Fills() != 16 || x.c.Hits() != 16 {
		t.Errorf("Len, Fills, Hits: %d, %d, %d, want 16 each", x.c.Len(), x.c.Fills(), x.c.Hits())
	}
	x.drain()
}

func TestNoSuchPage(t *testing.T) {
	wrong := []api.Key{
		{File: 0, Page: 3}, {File: 0, Page: 4}, {File: 1, Page: 0}, {File: 1, Page: 1}, {File: 2, Page: 3},
		{File: 3, Page: 1}, {File: 4, Page: 1}, {File: 5, Page: 0}, {File: 6, Page: 0}, {File: 64, Page: 0},
	}
	for _, n := range edges {
		wrong = append(wrong, api.Key{File: 0, Page: n}, api.Key{File: n, Page: 0}, api.Key{File: n, Page: n})
	}
	x := paired(t, 2, some)
	// Of no page, of a few, and of a pool without a free frame: that there is no such page is told first.
	for _, k := range allOf(some)[:3] {
		for _, w := range wrong {
			if f, err := x.c.Get(w); f != 0 || err != api.ErrRange {
				t.Fatalf("Get(%v): %d %d, want 0 %d", w, f, err, api.ErrRange)
			}
			if f, ok := x.c.Has(w); f != 0 || ok {
				t.Fatalf("Has(%v): %d %v", w, f, ok)
			}
		}
		x.same()
		x.fills(k)
	}
	x.drain()
}

func TestNoFreeFrame(t *testing.T) {
	keys := allOf(some)
	for n := 1; n < len(keys); n++ {
		x := paired(t, n, some)
		x.fills(keys[:n]...)
		for range 3 {
			// None goes by itself, though all could.
			if f, err := x.c.Get(keys[n]); f != 0 || err != api.ErrMem {
				t.Fatalf("Get(%v): %d %d, want 0 %d", keys[n], f, err, api.ErrMem)
			}
			x.same()
		}
		x.get(keys[0])
		x.evict()
		x.get(keys[n])
		x.drain()
	}
}

func TestFramesThatOthersHave(t *testing.T) {
	x := paired(t, 6, some)
	for range 5 {
		x.take()
	}
	x.give(3)
	x.give(1)
	x.get(api.Key{File: 0, Page: 2})
	x.get(api.Key{File: 0, Page: 1})
	x.get(api.Key{File: 0, Page: 0})
	x.get(api.Key{File: 2, Page: 0})
	x.give(4)
	x.get(api.Key{File: 2, Page: 0})
	if got, _ := x.c.Has(api.Key{File: 2, Page: 0}); got != 4 {
		t.Errorf("Has: %d, want 4", got)
	}
	x.drain()
	if x.p.Held(0) != 1 || x.p.Held(2) != 1 || x.p.Free() != 4 {
		t.Errorf("Held(0), Held(2), Free: %d, %d, %d, want 1, 1, 4", x.p.Held(0), x.p.Held(2), x.p.Free())
	}
}

func TestHasChangesNothing(t *testing.T) {
	x := paired(t, 2, some)
	l := first(2)
	x.fills(l...)
	for range 9 {
		if f, ok := x.c.Has(l[0]); f != 0 || !ok {
			t.Fatalf("Has: %d %v, want 0 true", f, ok)
		}
		if f, ok := x.c.Has(l[1]); f != 1 || !ok {
			t.Fatalf("Has: %d %v, want 1 true", f, ok)
		}
	}
	if x.c.Hits() != 0 || x.p.Held(0) != 1 || x.p.Held(1) != 1 {
		t.Errorf("Hits, Held: %d, %d, %d, want 0, 1, 1", x.c.Hits(), x.p.Held(0), x.p.Held(1))
	}
	// Neither is fresh, or else the other one would go first.
	x.c.Has(l[0])
	x.evicts(l...)
}

// P14.2

func TestEvictInTheOrderInWhichTheyCame(t *testing.T) {
	keys := allOf(some)
	slices.Reverse(keys)
	x := paired(t, len(keys), some)
	x.fills(keys...)
	x.evicts(keys...)
	if x.p.Free() != len(keys) {
		t.Errorf("%d frames are free, want %d", x.p.Free(), len(keys))
	}
}

func TestEvictPassesOverWhatIsFreshOnce(t *testing.T) {
	l := first(4)
	x := paired(t, 4, long(4))
	x.fills(l...)
	x.fills(l[0], l[2], l[2], l[2])
	x.evicts(l[1], l[3], l[0], l[2])
}

func TestEvictWhereAllAreFresh(t *testing.T) {
	for n := 1; n <= 5; n++ {
		l := first(n)
		x := paired(t, n, long(n))
		x.fills(l...)
		x.fills(l...)
		x.evicts(l...)
	}
}

func TestEvictPassesOverWhatOthersHold(t *testing.T) {
	l := first(4)
	x := paired(t, 4, long(4))
	x.fills(l...)
	x.hold(l[0])
	x.hold(l[1])
	x.hold(l[1])
	x.evicts(l[2], l[3])
	x.drop(l[1])
	x.evicts()
	x.drop(l[1])
	x.evicts(l[1])
	x.drop(l[0])
	x.evicts(l[0])
}

func TestWhatOthersHoldStaysFresh(t *testing.T) {
	l := first(2)
	x := paired(t, 2, long(2))
	x.fills(l...)
	x.get(l[0])
	x.hold(l[1])
	x.evicts()
	x.drop(l[0])
	x.drop(l[1])
	x.evicts(l[1], l[0])
}

func TestWhatWasPassedOverIsFreshAgain(t *testing.T) {
	l := first(3)
	x := paired(t, 3, long(3))
	x.fills(l...)
	x.fills(l[0])
	x.evict()
	// The first page was passed over, and the hand is at the third one; it is wanted once more.
	x.fills(l[0], l[2])
	x.evicts(l[2], l[0])
}

func TestWhereTheHandIsWhenNoneGoes(t *testing.T) {
	for n := 1; n <= 4; n++ {
		for at := range n {
			x := turned(t, n, at)
			keys := x.c.Keys()
			for _, k := range keys {
				x.hold(k)
			}
			for range 3 {
				x.evicts()
			}
			for _, k := range keys {
				x.drop(k)
			}
			x.evicts(append(keys[at:], keys[:at]...)...)
		}
	}
}

// turned is a pair with n pages that nobody else holds, and of which none is fresh, whose hand is at that place.
func turned(t *testing.T, n, at int) *pair {
	t.Helper()
	l := first(n + 1)
	x := paired(t, n+3, long(n+3))
	for i, k := range l {
		x.get(k)
		if i == at {
			x.drop(k)
		}
	}
	if !x.evict() {
		t.Fatal("Evict: nothing")
	}
	for _, k := range l {
		x.drop(k)
	}
	return x
}

func TestTheHandIsBehindTheOneThatWent(t *testing.T) {
	for n := 1; n <= 5; n++ {
		for at := range n + 1 {
			x := turned(t, n, at)
			keys := x.c.Keys()
			// The place n is behind the last one: at the first one.
			x.evicts(append(slices.Clone(keys[at%n:]), keys[:at%n]...)...)
		}
	}
}

func TestWhatComesIsAtTheEndAndNotAtTheHand(t *testing.T) {
	for n := 1; n <= 4; n++ {
		for at := range n {
			x := turned(t, n, at)
			keys := x.c.Keys()
			fresh := api.Key{Page: n + 1}
			x.fills(fresh)
			if got := x.c.Keys(); got[n] != fresh {
				t.Fatalf("Keys: %v, want %v at the end", got, fresh)
			}
			x.evicts(slices.Concat(keys[at:], []api.Key{fresh}, keys[:at])...)
		}
	}
}

func TestWhatWentAndComesAgain(t *testing.T) {
	l := first(3)
	x := paired(t, 3, long(3))
	x.fills(l...)
	x.fills(l...)
	x.evict()
	if _, ok := x.c.Has(l[0]); ok {
		t.Fatal("what went is there")
	}
	// It is not fresh any more: it was, when it was there.
	x.fills(l[0])
	if x.c.Fills() != 4 || x.c.Hits() != 3 {
		t.Errorf("Fills, Hits: %d, %d, want 4, 3", x.c.Fills(), x.c.Hits())
	}
	x.evicts(l[1], l[2], l[0])
	x.fills(l[2], l[1])
	x.evicts(l[2], l[1])
}

func TestAFrameOfAPageThatWent(t *testing.T) {
	x := paired(t, 2, some)
	x.fills(first(2)...)
	x.evict()
	if x.p.Held(0) != 0 || x.p.Free() != 1 {
		t.Errorf("Held(0), Free: %d, %d, want 0, 1", x.p.Held(0), x.p.Free())
	}
	x.take()
	x.get(api.Key{Page: 0})
	x.get(api.Key{Page: 1})
	x.drain()
}

func TestEvictOfEachState(t *testing.T) {
	for n := 1; n <= 4; n++ {
		for at := range n {
			// Of each page: does another one hold it, is it fresh?
			for state := range 1 << (2 * n) {
				x := turned(t, n, at)
				for i, k := range x.c.Keys() {
					if state>>(2*i)&1 == 1 {
						x.fills(k)
					}
					if state>>(2*i+1)&1 == 1 {
						x.hold(k)
					}
				}
				x.drain()
			}
		}
	}
}

func TestAllShortScripts(t *testing.T) {
	const steps, ways = 5, 7
	keys := []api.Key{{File: 0, Page: 1}, {File: 2, Page: 2}, {File: 0, Page: 0}}
	all := 1
	for range steps {
		all *= ways
	}
	for n := 1; n <= 3; n++ {
		for script := range all {
			x := paired(t, n, some)
			for s := script; s > 0; s /= ways {
				switch at := s % ways; {
				case at == 0:
					x.evict()
				case at <= 3:
					x.get(keys[at-1])
				default:
					x.drop(keys[at-4])
				}
			}
			x.drain()
		}
	}
}

// P14.3

func TestKeysBeginAtTheFirstPageNotAtTheHand(t *testing.T) {
	l := first(5)
	x := paired(t, 6, long(6))
	x.fills(l...)
	x.hold(l[0])
	x.hold(l[1])
	x.evict()
	if got, want := x.c.Keys(), []api.Key{l[0], l[1], l[3], l[4]}; !slices.Equal(got, want) {
		t.Errorf("Keys: %v, want %v", got, want)
	}
	x.get(api.Key{Page: 5})
	x.evict()
	if got, want := x.c.Keys(), []api.Key{l[0], l[1], l[4], {Page: 5}}; !slices.Equal(got, want) {
		t.Errorf("Keys: %v, want %v", got, want)
	}
	x.drain()
}

func TestWhatIsCounted(t *testing.T) {
	x := paired(t, 2, some)
	k := first(3)
	x.get(k[0])
	x.get(k[0])
	x.get(k[1])
	x.get(k[0])
	x.get(k[2])
	x.get(api.Key{File: 9})
	if x.c.Hits() != 2 || x.c.Fills() != 2 || x.c.Len() != 2 {
		t.Errorf("Hits, Fills, Len: %d, %d, %d, want 2 each", x.c.Hits(), x.c.Fills(), x.c.Len())
	}
	x.drain()
	if x.c.Hits() != 2 || x.c.Fills() != 2 {
		t.Errorf("Hits, Fills: %d, %d, want 2 each", x.c.Hits(), x.c.Fills())
	}
}

func TestKeysAreTheirOwners(t *testing.T) {
	l := first(3)
	x := paired(t, 4, long(4))
	x.fills(l...)
	told, other := x.c.Keys(), x.c.Keys()
	told[0], told[1] = api.Key{File: 7, Page: 7}, l[2]
	_ = append(told[:1], l[0], l[0])
	x.same()
	if !slices.Equal(other, l) {
		t.Errorf("told ahead: %v, want %v", other, l)
	}
	x.evict()
	x.fills(api.Key{Page: 3}, l[0])
	if !slices.Equal(other, l) {
		t.Errorf("told ahead: %v, want %v", other, l)
	}
	_ = append(x.c.Keys(), l[1])
	_ = append(x.c.Keys()[:1], l[0], l[0])
	x.same()
	x.drain()
}

// P14.4

// draws tells numbers below a bound, the same ones each time.
func draws(seed uint64) func(below int) int {
	return func(below int) int {
		seed = seed*6364136223846793005 + 1442695040888963407
		return int(seed >> 33 % uint64(below))
	}
}

// step does one thing with a pair.
func (x *pair) step(draw func(int) int) {
	x.t.Helper()
	k := api.Key{File: draw(len(x.m.files)+1) - draw(2), Page: draw(4)}
	switch draw(12) {
	case 0, 1:
		x.evict()
	case 2:
		x.take()
	case 3:
		x.evict()
		x.get(k)
	case 4, 5:
		// Of a page that is there.
		if n := len(x.m.ring); n > 0 {
			x.get(x.m.ring[draw(n)].key)
		}
	case 6, 7, 8, 9:
		if f := draw(len(x.m.held)); x.others(f) > 0 {
			x.give(f)
		}
	default:
		x.get(k)
	}
}

// others is how often a frame is held by others than the cache.
func (x *pair) others(f int) int {
	n := x.m.held[f]
	for _, e := range x.m.ring {
		if e.frame == f {
			n--
		}
	}
	return n
}

func TestLockstep(t *testing.T) {
	for seed := range 80 {
		draw := draws(uint64(seed))
		x := paired(t, 1+draw(10), some)
		for range 500 {
			x.step(draw)
		}
		x.drain()
	}
}

func TestCachesOfOnePool(t *testing.T) {
	p, f := pool(t, 6), opened(t, disk(t, some))
	one, two := cache.New(p, f), cache.New(p, f)
	k := api.Key{File: 0, Page: 1}
	for i, c := range []*cache.Cache{one, two} {
		if f, err := c.Get(k); f != i || err != api.OK {
			t.Fatalf("Get: %d %d, want %d 0", f, err, i)
		}
		p.Drop(i)
	}
	if got, ok := one.Evict(); got != k || !ok {
		t.Fatalf("Evict: %v %v, want %v", got, ok, k)
	}
	if one.Len() != 0 || two.Len() != 1 || p.Held(0) != 0 || p.Held(1) != 1 {
		t.Errorf("Len, Held: %d %d, %d %d, want 0 1, 0 1", one.Len(), two.Len(), p.Held(0), p.Held(1))
	}
	if got, ok := one.Evict(); got != (api.Key{}) || ok {
		t.Errorf("Evict: %v %v, want nothing", got, ok)
	}
	if f, ok := two.Has(k); f != 1 || !ok {
		t.Errorf("Has: %d %v, want 1 true", f, ok)
	}
}

func TestAsManyPagesAsMayBe(t *testing.T) {
	const pages = most + 50
	l := long(pages)
	p := pool(t, most)
	c := cache.New(p, opened(t, disk(t, l)))
	for i := range most {
		if f, err := c.Get(api.Key{Page: i}); f != i || err != api.OK {
			t.Fatalf("Get(%d): %d %d", i, f, err)
		}
		if s, _ := p.Bytes(i); s != l[0].Data[i*page:(i+1)*page] {
			t.Fatalf("Bytes(%d): %q", i, s)
		}
	}
	for range 3 {
		if k, ok := c.Evict(); k != (api.Key{}) || ok {
			t.Fatalf("Evict: %v %v, want nothing", k, ok)
		}
	}
	for i := most; i < pages; i++ {
		if f, err := c.Get(api.Key{Page: i}); f != 0 || err != api.ErrMem {
			t.Fatalf("Get(%d): %d %d, want 0 %d", i, f, err, api.ErrMem)
		}
	}
	for i := range most {
		p.Drop(i)
	}
	for i := range most {
		if k, ok := c.Evict(); k != (api.Key{Page: i}) || !ok {
			t.Fatalf("Evict: %v %v, want page %d", k, ok, i)
		}
	}
	if p.Free() != most || c.Len() != 0 || c.Fills() != most {
		t.Errorf("Free, Len, Fills: %d, %d, %d", p.Free(), c.Len(), c.Fills())
	}
}

// R1

func TestNilAndZero(t *testing.T) {
	zero := cache.Cache{}
	for c, want := range map[*cache.Cache]api.Errno{nil: api.ErrArg, &zero: api.ErrRange, new(cache.Cache): api.ErrRange} {
		for _, n := range append([]int{0, 1}, edges...) {
			noPage(t, c, api.Key{File: 0, Page: n}, want)
			noPage(t, c, api.Key{File: n, Page: 0}, want)
		}
		for range 2 {
			if k, ok := c.Evict(); k != (api.Key{}) || ok {
				t.Errorf("Evict: %v %v, want nothing", k, ok)
			}
		}
	}
}

// P1

// uses asks everything of a cache whose pool, files or disk its owners have spoilt: nothing is promised of it but that each call ends.
func uses(c *cache.Cache) {
	for range 3 {
		for _, k := range allOf(some) {
			c.Get(k)
			c.Has(k)
		}
		c.Evict()
		c.Len()
		c.Keys()
		c.Hits()
		c.Fills()
	}
	for range 20 {
		c.Evict()
	}
}

func TestWhatOwnersSpoil(t *testing.T) {
	for state := range 1 << 4 {
		d := disk(t, some)
		p, f := pool(t, 3), opened(t, d)
		c := cache.New(p, f)
		for _, k := range allOf(some) {
			c.Get(k)
		}
		if state&1 != 0 {
			for i := range 3 {
				for p.Drop(i) == api.OK {
				}
			}
		}
		if state&2 != 0 {
			*p = frames.Pool{}
		}
		if state&4 != 0 {
			*f = files.Files{}
		}
		if state&8 != 0 {
			*d = block.Disk{}
		}
		uses(c)
	}
}

func TestADiskThatIsNoMore(t *testing.T) {
	d := disk(t, some)
	p := pool(t, 3)
	c := cache.New(p, opened(t, d))
	*d = block.Disk{}
	for _, k := range allOf(some) {
		if f, err := c.Get(k); f != 0 || err == api.OK {
			t.Errorf("Get(%v): %d %d, want an error", k, f, err)
		}
	}
	if p.Free() != 3 || c.Len() != 0 || c.Fills() != 0 || c.Hits() != 0 {
		t.Errorf("Free, Len, Fills, Hits: %d, %d, %d, %d, want 3, 0, 0, 0", p.Free(), c.Len(), c.Fills(), c.Hits())
	}
}
