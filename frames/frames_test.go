package frames_test

import (
	"math"
	"strings"
	"testing"

	"flyleaf/api"
	"flyleaf/frames"
)

// The numbers are written out: a test that asked api for them would follow it if it were wrong.
const (
	page = 64
	most = 4096
)

// zeros is a frame without anything in it.
var zeros = strings.Repeat("\x00", page)

// edges are numbers of int of which there is no frame and no place in one; taken 64 times, or with a few added, some of them wrap round to one that there is.
var edges = []int{
	math.MinInt, math.MinInt + 1, math.MinInt + most, -1 << 58, math.MinInt32, -most, -65, -64, -9, -8, -2, -1,
	most + 1, 1 << 32, 1 << 57, 1 << 58, 1<<58 + 1, 1 << 62, math.MaxInt - most, math.MaxInt - 8, math.MaxInt - 7, math.MaxInt - 1, math.MaxInt,
}

// lengths are those of texts that are no page.
var lengths = []int{0, 1, 2, 63, 65, 66, 127, 128, 129, 4096}

// noKinds are numbers of no kind of words.
var noKinds = append([]int{0, 10, 11, 63, 64, 256, 257}, edges...)

// kinds says of each kind of words how many bytes they have, and whether they have a sign.
var kinds = []struct {
	kind, width int
	signed      bool
}{
	{1, 1, false}, {2, 2, false}, {3, 4, false}, {4, 8, false},
	{5, 1, true}, {6, 2, true}, {7, 4, true}, {8, 8, true},
	{9, 8, false},
}

// bytes is a text of n bytes each of which tells its place, and whose it is.
func bytes(seed, n int) string {
	b := make([]byte, n)
	for i := range b {
		b[i] = byte(seed*37 + seed>>8 + i*5 + 1)
	}
	return string(b)
}

// pool is one that can be.
func pool(t *testing.T, n int) *frames.Pool {
	t.Helper()
	p := frames.New(n)
	if p == nil {
		t.Fatalf("New(%d): nil", n)
	}
	return p
}

// full is a pool whose frames are all taken, each with bytes of its own.
func full(t *testing.T, n int) *frames.Pool {
	t.Helper()
	p := pool(t, n)
	for f := range n {
		takes(t, p, f)
		fills(t, p, f, bytes(f, page))
	}
	return p
}

// says asks what a call told.
func says(t *testing.T, what string, got, want api.Errno) {
	t.Helper()
	if got != want {
		t.Fatalf("%s: %d, want %d", what, got, want)
	}
}

// takes takes a frame, and asks which one it is.
func takes(t *testing.T, p *frames.Pool, want int) {
	t.Helper()
	if f, err := p.Take(); f != want || err != api.OK {
		t.Fatalf("Take: %d %d, want frame %d", f, err, want)
	}
}

// fills lays bytes on a frame.
func fills(t *testing.T, p *frames.Pool, f int, s string) {
	t.Helper()
	says(t, "Fill", p.Fill(f, s), api.OK)
}

// copies copies a frame, and asks what was told.
func copies(t *testing.T, p *frames.Pool, from, want int, fault api.Errno) {
	t.Helper()
	if f, err := p.Copy(from); f != want || err != fault {
		t.Fatalf("Copy(%d): %d %d, want %d %d", from, f, err, want, fault)
	}
}

// has asks what bytes a frame has.
func has(t *testing.T, p *frames.Pool, f int, want string) {
	t.Helper()
	if s, err := p.Bytes(f); s != want || err != api.OK {
		t.Fatalf("Bytes(%d): %x %d, want %x 0", f, s, err, want)
	}
}

// loads asks which word stands in a frame.
func loads(t *testing.T, p *frames.Pool, f, at, kind int, want uint64) {
	t.Helper()
	if n, err := p.Load(f, at, kind); n != want || err != api.OK {
		t.Fatalf("Load(%d, %d, %d): %x %d, want %x 0", f, at, kind, n, err, want)
	}
}

// stores puts a word into a frame.
func stores(t *testing.T, p *frames.Pool, f, at, kind int, bits uint64) {
	t.Helper()
	if err := p.Store(f, at, kind, bits); err != api.OK {
		t.Fatalf("Store(%d, %d, %d, %x): %d", f, at, kind, bits, err)
	}
}

// noWord asks that no word is loaded from a place or stored to it, with that error.
func noWord(t *testing.T, p *frames.Pool, f, at, kind int, want api.Errno) {
	t.Helper()
	if n, err := p.Load(f, at, kind); n != 0 || err != want {
		t.Fatalf("Load(%d, %d, %d): %x %d, want 0 %d", f, at, kind, n, err, want)
	}
	if err := p.Store(f, at, kind, math.MaxUint64); err != want {
		t.Fatalf("Store(%d, %d, %d): %d, want %d", f, at, kind, err, want)
	}
}

// noUse asks that no use of a frame is told anything but that error, which stands ahead of what else is wrong.
func noUse(t *testing.T, p *frames.Pool, f int, want api.Errno) {
	t.Helper()
	says(t, "Hold", p.Hold(f), want)
	says(t, "Drop", p.Drop(f), want)
	if n := p.Held(f); n != 0 {
		t.Fatalf("Held(%d): %d, want 0", f, n)
	}
	if s, err := p.Bytes(f); s != "" || err != want {
		t.Fatalf("Bytes(%d): %x %d, want %d", f, s, err, want)
	}
	says(t, "Fill", p.Fill(f, bytes(1, page)), want)
	says(t, "Fill of no page", p.Fill(f, "a"), want)
	copies(t, p, f, 0, want)
	noWord(t, p, f, 0, api.U8, want)
	noWord(t, p, f, page, api.U8, want)
	noWord(t, p, f, -1, 0, want)
}

// held asks how often each frame is held, and how many are not, and that all others tell why they can't be used.
func held(t *testing.T, p *frames.Pool, want ...int) {
	t.Helper()
	free := 0
	for f, n := range want {
		if got := p.Held(f); got != n {
			t.Fatalf("Held(%d): %d, want %d", f, got, n)
		}
		if n == 0 {
			free++
			noUse(t, p, f, api.ErrState)
		}
	}
	if p.Free() != free || p.Frames() != len(want) {
		t.Fatalf("Free, Frames: %d, %d, want %d, %d", p.Free(), p.Frames(), free, len(want))
	}
	noUse(t, p, len(want), api.ErrRange)
	noUse(t, p, -1, api.ErrRange)
}

func TestLimits(t *testing.T) {
	if api.Page != page || api.MaxFrames != most {
		t.Fatalf("Page %d, MaxFrames %d", api.Page, api.MaxFrames)
	}
}

// P6.1

func TestNew(t *testing.T) {
	for _, n := range []int{1, 2, 3, 7, 8, 63, 64, 65, 1000, most - 1, most} {
		held(t, pool(t, n), make([]int, n)...)
	}
	for _, n := range append([]int{0, -most + 1, most + 2, most + page, 2 * most}, edges...) {
		if p := frames.New(n); p != nil {
			t.Errorf("New(%d): a pool of %d frames", n, p.Frames())
		}
	}
}

// P6.2

func TestExample(t *testing.T) {
	p := pool(t, 2)
	takes(t, p, 0)
	says(t, "Store", p.Store(0, 8, api.U16, 258), api.OK)
	loads(t, p, 0, 8, api.U8, 2)
	loads(t, p, 0, 9, api.U8, 1)
}

func TestTakeTheLeastFreeFrame(t *testing.T) {
	const n = 8
	for free := range 1 << n {
		p := full(t, n)
		want := make([]int, n)
		// The greater ones are freed first: the order doesn't count.
		for f := n - 1; f >= 0; f-- {
			if free>>f&1 == 1 {
				says(t, "Drop", p.Drop(f), api.OK)
			} else {
				want[f] = 1
			}
		}
		held(t, p, want...)
		for f := range n {
			if want[f] == 0 {
				takes(t, p, f)
				has(t, p, f, zeros)
				want[f] = 1
				held(t, p, want...)
			} else {
				has(t, p, f, bytes(f, page))
			}
		}
	}
}

func TestTakeOfAFullPool(t *testing.T) {
	for _, n := range []int{1, 2, 9, most} {
		p := full(t, n)
		for range 3 {
			if f, err := p.Take(); f != 0 || err != api.ErrMem {
				t.Fatalf("Take of %d frames that are held: %d %d, want ErrMem", n, f, err)
			}
		}
		if p.Free() != 0 {
			t.Errorf("Free: %d", p.Free())
		}
		for f := range n {
			has(t, p, f, bytes(f, page))
		}
		says(t, "Drop", p.Drop(n-1), api.OK)
		takes(t, p, n-1)
		has(t, p, n-1, zeros)
	}
}

func TestTakeClearsItsFrameAlone(t *testing.T) {
	p := full(t, 3)
	says(t, "Drop", p.Drop(1), api.OK)
	takes(t, p, 1)
	has(t, p, 0, bytes(0, page))
	has(t, p, 1, zeros)
	has(t, p, 2, bytes(2, page))
}

func TestNoFrame(t *testing.T) {
	for _, n := range []int{1, 2, 5, most} {
		p := full(t, n)
		for _, f := range append([]int{n, n + 1, most, -n, -n - 1}, edges...) {
			noUse(t, p, f, api.ErrRange)
		}
		// Frames that there are were not touched.
		for f := range n {
			has(t, p, f, bytes(f, page))
		}
	}
}

func TestFreeFrames(t *testing.T) {
	p := full(t, 4)
	says(t, "Drop", p.Drop(2), api.OK)
	for range 3 {
		noUse(t, p, 2, api.ErrState)
		held(t, p, 1, 1, 0, 1)
	}
	for _, f := range []int{0, 1, 3} {
		has(t, p, f, bytes(f, page))
	}
}

func TestHoldAndDrop(t *testing.T) {
	p := pool(t, 4)
	takes(t, p, 0)
	takes(t, p, 1)
	takes(t, p, 2)
	fills(t, p, 1, bytes(1, page))
	const times = 1000
	for n := range times {
		held(t, p, 1, n+1, 1, 0)
		says(t, "Hold", p.Hold(1), api.OK)
	}
	for n := range times {
		held(t, p, 1, times+1-n, 1, 0)
		says(t, "Drop", p.Drop(1), api.OK)
		has(t, p, 1, bytes(1, page))
	}
	takes(t, p, 3)
	says(t, "Drop", p.Drop(1), api.OK)
	held(t, p, 1, 0, 1, 1)
	// Behind a new taking it is held once, however often it was ahead.
	takes(t, p, 1)
	held(t, p, 1, 1, 1, 1)
	has(t, p, 1, zeros)
}

// P6.3

func TestFill(t *testing.T) {
	p := full(t, 3)
	for _, s := range []string{bytes(9, page), strings.Repeat("\xff", page), zeros, strings.Repeat("é", page/2)} {
		fills(t, p, 1, s)
		has(t, p, 1, s)
		has(t, p, 0, bytes(0, page))
		has(t, p, 2, bytes(2, page))
		held(t, p, 1, 1, 1)
	}
}

func TestFillOfNoPage(t *testing.T) {
	p := full(t, 3)
	for _, n := range lengths {
		for f := range 3 {
			says(t, "Fill", p.Fill(f, bytes(9, n)), api.ErrArg)
			has(t, p, f, bytes(f, page))
		}
	}
	says(t, "Fill", p.Fill(0, strings.Repeat("é", page)), api.ErrArg)
	held(t, p, 1, 1, 1)
	for f := range 3 {
		has(t, p, f, bytes(f, page))
	}
}

func TestCopy(t *testing.T) {
	const n = 4
	for from := range n {
		for to := range n {
			if from == to {
				continue
			}
			p := full(t, n)
			says(t, "Hold", p.Hold(from), api.OK)
			says(t, "Drop", p.Drop(to), api.OK)
			copies(t, p, from, to, api.OK)
			want := []int{1, 1, 1, 1}
			// The one that was copied is held as often as it was.
			want[from] = 2
			held(t, p, want...)
			for f := range n {
				if f == to {
					has(t, p, f, bytes(from, page))
				} else {
					has(t, p, f, bytes(f, page))
				}
			}
		}
	}
}

func TestCopyToTheLeastFreeFrame(t *testing.T) {
	p := full(t, 5)
	for _, f := range []int{3, 1, 4} {
		says(t, "Drop", p.Drop(f), api.OK)
	}
	copies(t, p, 2, 1, api.OK)
	held(t, p, 1, 1, 1, 0, 0)
	copies(t, p, 1, 3, api.OK)
	copies(t, p, 0, 4, api.OK)
	has(t, p, 3, bytes(2, page))
	has(t, p, 4, bytes(0, page))
}

func TestCopyOfAFullPool(t *testing.T) {
	p := full(t, 3)
	for f := range 3 {
		copies(t, p, f, 0, api.ErrMem)
	}
	// That there is no such frame is told ahead of there being none for the copy.
	copies(t, p, 3, 0, api.ErrRange)
	copies(t, p, -1, 0, api.ErrRange)
	held(t, p, 1, 1, 1)
	for f := range 3 {
		has(t, p, f, bytes(f, page))
	}
}

func TestACopyIsItsOwn(t *testing.T) {
	p := pool(t, 3)
	takes(t, p, 0)
	fills(t, p, 0, bytes(1, page))
	copies(t, p, 0, 1, api.OK)
	stores(t, p, 0, 5, api.U8, 0xee)
	has(t, p, 1, bytes(1, page))
	fills(t, p, 1, bytes(2, page))
	has(t, p, 0, bytes(1, page)[:5]+"\xee"+bytes(1, page)[6:])
	says(t, "Drop", p.Drop(0), api.OK)
	has(t, p, 1, bytes(2, page))
	takes(t, p, 0)
	has(t, p, 0, zeros)
	has(t, p, 1, bytes(2, page))
}

// plain is the word of a kind that stands in bytes.
func plain(s string, signed bool) uint64 {
	n := uint64(0)
	for i := len(s) - 1; i >= 0; i-- {
		n = n<<8 | uint64(s[i])
	}
	if signed && s[len(s)-1] >= 0x80 && len(s) < 8 {
		n |= math.MaxUint64 << (8 * len(s))
	}
	return n
}

// laid is a page with the lowest bytes of a number in it.
func laid(s string, at, width int, n uint64) string {
	b := []byte(s)
	for i := range width {
		b[at+i] = byte(n >> (8 * i))
	}
	return string(b)
}

func TestWords(t *testing.T) {
	numbers := []uint64{0, 1, 0x7f, 0x80, 0xff, 0x8000, 0xffff, 0x80000000, 1 << 63, math.MaxUint64, 0x0123456789abcdef, 0x7ff8000000000001}
	p := full(t, 3)
	for _, k := range kinds {
		for at := 0; at+k.width <= page; at++ {
			loads(t, p, 1, at, k.kind, plain(bytes(1, page)[at:at+k.width], k.signed))
			for _, n := range numbers {
				stores(t, p, 1, at, k.kind, n)
				want := laid(bytes(1, page), at, k.width, n)
				has(t, p, 1, want)
				loads(t, p, 1, at, k.kind, plain(want[at:at+k.width], k.signed))
			}
			fills(t, p, 1, bytes(1, page))
		}
		has(t, p, 0, bytes(0, page))
		has(t, p, 2, bytes(2, page))
	}
	held(t, p, 1, 1, 1)
}

func TestNoSuchKind(t *testing.T) {
	p := full(t, 3)
	for _, kind := range noKinds {
		// That there is no such kind is told ahead of there being no such place.
		for _, at := range append([]int{0, 1, 63, 64, 65}, edges...) {
			noWord(t, p, 1, at, kind, api.ErrArg)
		}
	}
	for f := range 3 {
		has(t, p, f, bytes(f, page))
	}
}

func TestNoPlaceForAWord(t *testing.T) {
	p := full(t, 3)
	for _, k := range kinds {
		for at := page - k.width + 1; at <= page+k.width; at++ {
			noWord(t, p, 1, at, k.kind, api.ErrRange)
		}
		for at := -1; at >= -page-8; at-- {
			noWord(t, p, 1, at, k.kind, api.ErrRange)
		}
		for _, at := range append([]int{2 * page, most, most * page}, edges...) {
			for f := range 3 {
				noWord(t, p, f, at, k.kind, api.ErrRange)
			}
		}
	}
	held(t, p, 1, 1, 1)
	for f := range 3 {
		has(t, p, f, bytes(f, page))
	}
}

// P6.4

// model is a pool of plain texts.
type model struct {
	pages []string
	held  []int
}

func (m *model) take(s string) (int, api.Errno) {
	for f, n := range m.held {
		if n == 0 {
			m.held[f], m.pages[f] = 1, s
			return f, api.OK
		}
	}
	return 0, api.ErrMem
}

func (m *model) use(f int) api.Errno {
	switch {
	case f < 0 || f >= len(m.held):
		return api.ErrRange
	case m.held[f] == 0:
		return api.ErrState
	}
	return api.OK
}

func (m *model) fill(f int, s string) api.Errno {
	if err := m.use(f); err != api.OK {
		return err
	}
	if len(s) != page {
		return api.ErrArg
	}
	m.pages[f] = s
	return api.OK
}

func (m *model) copy(from int) (int, api.Errno) {
	if err := m.use(from); err != api.OK {
		return 0, err
	}
	return m.take(m.pages[from])
}

// word is a kind's place in a frame.
func (m *model) word(f, at, kind int) (width int, signed bool, err api.Errno) {
	if err := m.use(f); err != api.OK {
		return 0, false, err
	}
	if kind < 1 || kind > len(kinds) {
		return 0, false, api.ErrArg
	}
	k := kinds[kind-1]
	if at < 0 || at > page-k.width {
		return 0, false, api.ErrRange
	}
	return k.width, k.signed, api.OK
}

// draws tells numbers below a bound, the same ones each time.
func draws(seed uint64) func(below int) int {
	return func(below int) int {
		seed = seed*6364136223846793005 + 1442695040888963407
		return int(seed >> 33 % uint64(below))
	}
}

// step is one call of a pool and of its model.
func step(t *testing.T, draw func(int) int, p *frames.Pool, m *model) {
	t.Helper()
	f := draw(len(m.held)+2) - 1
	want := m.use(f)
	switch draw(10) {
	case 0, 1:
		got, err := p.Take()
		if w, e := m.take(zeros); got != w || err != e {
			t.Fatalf("Take: %d %d, want %d %d", got, err, w, e)
		}
	case 2:
		w, e := m.copy(f)
		copies(t, p, f, w, e)
	case 3:
		says(t, "Hold", p.Hold(f), want)
		if want == api.OK {
			m.held[f]++
		}
	case 4, 5, 6:
		says(t, "Drop", p.Drop(f), want)
		if want == api.OK {
			m.held[f]--
		}
	case 7:
		long := page
		if draw(9) == 0 {
			long = lengths[draw(len(lengths))]
		}
		s := bytes(draw(100000), long)
		says(t, "Fill", p.Fill(f, s), m.fill(f, s))
	case 8:
		at, kind, n := draw(page+8)-4, draw(11), uint64(draw(1<<30))<<34|uint64(draw(1<<30))
		width, _, e := m.word(f, at, kind)
		says(t, "Store", p.Store(f, at, kind, n), e)
		if e == api.OK {
			m.pages[f] = laid(m.pages[f], at, width, n)
		}
	default:
		at, kind := draw(page+8)-4, draw(11)
		width, signed, e := m.word(f, at, kind)
		w := uint64(0)
		if e == api.OK {
			w = plain(m.pages[f][at:at+width], signed)
		}
		if n, err := p.Load(f, at, kind); n != w || err != e {
			t.Fatalf("Load(%d, %d, %d): %x %d, want %x %d", f, at, kind, n, err, w, e)
		}
	}
}

// same asks that a pool has what its model has.
func same(t *testing.T, p *frames.Pool, m *model) {
	t.Helper()
	held(t, p, m.held...)
	for f, n := range m.held {
		if n > 0 {
			has(t, p, f, m.pages[f])
		}
	}
}

func TestLockstep(t *testing.T) {
	for seed := range 60 {
		draw := draws(uint64(seed))
		n := 1 + draw(9)
		p, m := pool(t, n), &model{pages: make([]string, n), held: make([]int, n)}
		for range 400 {
			step(t, draw, p, m)
			same(t, p, m)
		}
	}
}

func TestPoolsAreApart(t *testing.T) {
	draw := draws(77)
	pools, models := []*frames.Pool{}, []*model{}
	for range 3 {
		pools = append(pools, pool(t, 3))
		models = append(models, &model{pages: make([]string, 3), held: make([]int, 3)})
	}
	for range 3000 {
		i := draw(3)
		step(t, draw, pools[i], models[i])
		for k := range 3 {
			same(t, pools[k], models[k])
		}
	}
}

func TestWhatIsToldDoesNotChange(t *testing.T) {
	p := full(t, 1)
	first, _ := p.Bytes(0)
	stores(t, p, 0, 0, api.U64, 77)
	fills(t, p, 0, bytes(5, page))
	says(t, "Drop", p.Drop(0), api.OK)
	takes(t, p, 0)
	if first != bytes(0, page) {
		t.Errorf("told ahead: %x", first)
	}
}

// nothing asks a pool without frames.
func nothing(t *testing.T, p *frames.Pool, take, use api.Errno) {
	t.Helper()
	for range 2 {
		if f, err := p.Take(); f != 0 || err != take {
			t.Errorf("Take: %d %d, want 0 %d", f, err, take)
		}
		for _, f := range append([]int{0, 1, most - 1, most}, edges...) {
			noUse(t, p, f, use)
		}
		if p.Free() != 0 || p.Frames() != 0 {
			t.Errorf("Free, Frames: %d, %d", p.Free(), p.Frames())
		}
	}
}

func TestNilAndZero(t *testing.T) {
	nothing(t, nil, api.ErrArg, api.ErrArg)
	nothing(t, frames.New(0), api.ErrArg, api.ErrArg)
	nothing(t, new(frames.Pool), api.ErrMem, api.ErrRange)
	var zero frames.Pool
	nothing(t, &zero, api.ErrMem, api.ErrRange)
}
