package block_test

import (
	"math"
	"strconv"
	"strings"
	"testing"

	"flyleaf/api"
	"flyleaf/block"
)

// The numbers are written out: a test that asked api for them would follow it if it were wrong.
const (
	page = 64
	most = 16384
)

// edges are numbers of int at which there is no sector; of some of them the place of the bytes, at 64 each, wraps round to one that there is.
var edges = []int{
	math.MinInt, math.MinInt + 1, -1 << 58, -1<<58 + 1, -most, -65, -64, -2, -1,
	most, most + 1, 1 << 57, 1 << 58, 1<<58 + 1, 1 << 62, math.MaxInt - 1, math.MaxInt,
}

// lengths are those of texts that are no sector.
var lengths = []int{0, 1, 2, 63, 65, 66, 127, 128, 129, 4096}

// bytes is a text of n bytes each of which tells its place, and whose it is.
func bytes(seed, n int) string {
	b := make([]byte, n)
	for i := range b {
		b[i] = byte(seed*37 + i*5 + 1)
	}
	return string(b)
}

// whole is s as a sector has it.
func whole(s string) string {
	return (s + strings.Repeat("\x00", page))[:page]
}

// has asks for all sectors of a disk, and one behind.
func has(t *testing.T, what string, d *block.Disk, want []string) {
	t.Helper()
	if got := d.Sectors(); got != len(want) {
		t.Fatalf("%s: %d sectors, want %d", what, got, len(want))
	}
	for i, w := range want {
		if got, err := d.Read(i); got != w || err != api.OK {
			t.Fatalf("%s: Read(%d): %x %d, want %x 0", what, i, got, err, w)
		}
	}
	if got, err := d.Read(len(want)); got != "" || err != api.ErrRange {
		t.Fatalf("%s: Read(%d): %x %d, want ErrRange", what, len(want), got, err)
	}
}

// counts asks how many reads and writes there were.
func counts(t *testing.T, what string, d *block.Disk, reads, writes int) {
	t.Helper()
	if r, w := d.Reads(), d.Writes(); r != reads || w != writes {
		t.Errorf("%s: %d reads, %d writes, want %d, %d", what, r, w, reads, writes)
	}
}

// write writes what may be written.
func write(t *testing.T, d *block.Disk, at int, s string) {
	t.Helper()
	if err := d.Write(at, s); err != api.OK {
		t.Fatalf("Write(%d): %d, want OK", at, err)
	}
}

func TestLimits(t *testing.T) {
	if api.Page != page || api.MaxSectors != most {
		t.Fatalf("Page %d, MaxSectors %d", api.Page, api.MaxSectors)
	}
}

// P3.1

func TestNew(t *testing.T) {
	for _, n := range []int{1, 2, 3, 64, 1000, most - 1, most} {
		d := block.New(n)
		if d == nil {
			t.Fatalf("New(%d): nil", n)
		}
		counts(t, "New", d, 0, 0)
		want := make([]string, n)
		for i := range want {
			want[i] = whole("")
		}
		has(t, "New("+strconv.Itoa(n)+")", d, want)
	}
}

func TestNewOfNoSize(t *testing.T) {
	for _, n := range append([]int{0, math.MinInt32, math.MaxInt32, 1 << 20}, edges...) {
		if n != most && block.New(n) != nil {
			t.Errorf("New(%d): a disk", n)
		}
	}
}

func TestNewHasNothingSealed(t *testing.T) {
	d := block.New(2)
	write(t, d, 0, bytes(1, page))
	write(t, d, 1, bytes(2, page))
	has(t, "New(2)", d, []string{bytes(1, page), bytes(2, page)})
}

func TestOf(t *testing.T) {
	for _, l := range [][]string{
		{"a"},
		{""},
		{"\x00"},
		{"", "", "b"},
		{bytes(1, 63), bytes(2, 64), bytes(3, 65), "", bytes(4, 4096)},
		{bytes(5, 128), "", bytes(6, 1)},
	} {
		d := block.Of(l...)
		if d == nil {
			t.Fatalf("Of(%x): nil", l)
		}
		counts(t, "Of", d, 0, 0)
		want := make([]string, len(l))
		for i, s := range l {
			want[i] = whole(s)
		}
		has(t, "Of", d, want)
		for i := range l {
			write(t, d, i, bytes(i+9, page))
		}
	}
}

func TestOfAsManyAsMayBe(t *testing.T) {
	l := make([]string, most+1)
	want := make([]string, most)
	for i := range l {
		l[i] = bytes(i, i%130)
	}
	for i := range want {
		want[i] = whole(l[i])
	}
	has(t, "Of 16384", block.Of(l[:most]...), want)
	if block.Of(l...) != nil {
		t.Error("Of 16385: a disk")
	}
	if block.Of(make([]string, 4*most)...) != nil {
		t.Error("Of 65536: a disk")
	}
}

func TestOfNone(t *testing.T) {
	if block.Of() != nil || block.Of(nil...) != nil || block.Of([]string{}...) != nil {
		t.Error("Of none: a disk")
	}
}

func TestOfKeepsNothingOfTheList(t *testing.T) {
	l := []string{"a", bytes(1, page)}
	d := block.Of(l...)
	l[0], l[1] = "b", "c"
	has(t, "Of", d, []string{whole("a"), bytes(1, page)})
	l = []string{"a", bytes(1, page), bytes(2, 100)}
	d = block.Of(l...)
	write(t, d, 0, bytes(3, page))
	if l[0] != "a" || l[1] != bytes(1, page) || l[2] != bytes(2, 100) {
		t.Errorf("the list that was handed in: %x", l)
	}
}

// P3.2

func TestExample(t *testing.T) {
	d := block.Of("a")
	if s, err := d.Read(0); s != "a"+strings.Repeat("\x00", 63) || err != api.OK {
		t.Errorf("Read(0): %x %d", s, err)
	}
	d.Seal(1)
	if err := d.Write(0, bytes(1, page)); err != api.ErrState {
		t.Errorf("Write(0): %d, want ErrState", err)
	}
}

func TestUseOfNoSector(t *testing.T) {
	for _, n := range []int{1, 2, 5} {
		d := block.New(n)
		d.Seal(1)
		for _, at := range append([]int{n, n + 1, page, page * n}, edges...) {
			if s, err := d.Read(at); s != "" || err != api.ErrRange {
				t.Errorf("Read(%d) of %d: %x %d, want ErrRange", at, n, s, err)
			}
			for _, long := range append([]int{page}, lengths...) {
				if err := d.Write(at, bytes(1, long)); err != api.ErrRange {
					t.Errorf("Write(%d) of %d, %d bytes: %d, want ErrRange", at, n, long, err)
				}
			}
		}
		counts(t, "no sector", d, 0, 0)
		for i := range n {
			if s, err := d.Read(i); s != whole("") || err != api.OK {
				t.Errorf("Read(%d) of %d: %x %d", i, n, s, err)
			}
		}
	}
}

func TestWriteOfNoSectorsLength(t *testing.T) {
	want := []string{bytes(1, page), bytes(2, page), bytes(3, page)}
	d := block.Of(want...)
	d.Seal(1)
	for at := range want {
		for _, long := range lengths {
			// The first sector is sealed: that is asked behind the length.
			if err := d.Write(at, bytes(7, long)); err != api.ErrArg {
				t.Errorf("Write(%d), %d bytes: %d, want ErrArg", at, long, err)
			}
		}
	}
	counts(t, "wrong lengths", d, 0, 0)
	has(t, "wrong lengths", d, want)
}

func TestWriteChangesOneSector(t *testing.T) {
	const n = 7
	for at := range n {
		want := make([]string, n)
		for i := range want {
			want[i] = bytes(i, page)
		}
		d := block.Of(want...)
		want[at] = bytes(100+at, page)
		write(t, d, at, want[at])
		has(t, "Write("+strconv.Itoa(at)+")", d, want)
	}
}

func TestWriteAtTheEnds(t *testing.T) {
	d := block.New(most)
	for _, at := range []int{0, 1, most - 2, most - 1} {
		write(t, d, at, bytes(at, page))
		if s, err := d.Read(at); s != bytes(at, page) || err != api.OK {
			t.Errorf("Read(%d): %x %d", at, s, err)
		}
	}
}

// sealed asks that just the first n sectors of a disk of so many are sealed.
func sealed(t *testing.T, what string, d *block.Disk, n int) {
	t.Helper()
	for at := range d.Sectors() {
		want := api.OK
		if at < n {
			want = api.ErrState
		}
		ahead, _ := d.Read(at)
		if err := d.Write(at, bytes(at+50, page)); err != want {
			t.Errorf("%s: Write(%d): %d, want %d", what, at, err, want)
		}
		if s, err := d.Read(at); err != api.OK || want == api.ErrState && s != ahead || want == api.OK && s != bytes(at+50, page) {
			t.Errorf("%s: Read(%d) behind it: %x %d, ahead %x", what, at, s, err, ahead)
		}
	}
}

func TestSeal(t *testing.T) {
	const sectors = 5
	for _, n := range append([]int{0, 1, 2, 3, 4, 5, 6, 7, 64}, edges...) {
		d := block.New(sectors)
		d.Seal(n)
		sealed(t, "Seal("+strconv.Itoa(n)+")", d, min(max(n, 0), sectors))
	}
}

func TestALesserSealChangesNothing(t *testing.T) {
	d := block.Of("a", "b", "c", "d")
	for _, c := range []struct{ n, all int }{
		{0, 0}, {-1, 0}, {math.MinInt, 0}, {1, 1}, {0, 1}, {math.MinInt, 1}, {-7, 1},
		{3, 3}, {2, 3}, {3, 3}, {1, 3}, {0, 3}, {math.MaxInt, 4}, {4, 4}, {3, 4}, {math.MinInt, 4},
	} {
		d.Seal(c.n)
		sealed(t, "behind Seal("+strconv.Itoa(c.n)+")", d, c.all)
	}
	has(t, "sealed", d, []string{bytes(50, page), bytes(51, page), bytes(52, page), bytes(53, page)})
}

func TestASectorIsSealedAsItIs(t *testing.T) {
	d := block.New(2)
	write(t, d, 0, bytes(1, page))
	d.Seal(1)
	for range 3 {
		if err := d.Write(0, bytes(2, page)); err != api.ErrState {
			t.Errorf("Write(0): %d, want ErrState", err)
		}
	}
	if err := d.Write(0, bytes(1, page)); err != api.ErrState {
		t.Errorf("Write(0) of what it has: %d, want ErrState", err)
	}
	has(t, "sealed", d, []string{bytes(1, page), whole("")})
}

func TestWhatWasOKIsCounted(t *testing.T) {
	d := block.New(3)
	d.Seal(1)
	counts(t, "Seal", d, 0, 0)
	d.Read(3)
	d.Read(-1)
	d.Write(3, bytes(1, page))
	d.Write(1, "short")
	d.Write(0, bytes(1, page))
	counts(t, "errors", d, 0, 0)
	d.Read(0)
	d.Read(0)
	d.Read(2)
	counts(t, "three reads", d, 3, 0)
	d.Write(1, bytes(1, page))
	counts(t, "one write", d, 3, 1)
	d.Write(1, bytes(1, page))
	counts(t, "the same once more", d, 3, 2)
	d.Sectors()
	d.Reads()
	d.Writes()
	d.Seal(3)
	d.Write(2, bytes(1, page))
	counts(t, "in the end", d, 3, 2)
}

func TestWhatIsToldDoesNotChange(t *testing.T) {
	d := block.Of("a", "b")
	first, _ := d.Read(0)
	write(t, d, 0, bytes(1, page))
	second, _ := d.Read(0)
	write(t, d, 0, bytes(2, page))
	if first != whole("a") || second != bytes(1, page) {
		t.Errorf("told ahead: %x, %x", first, second)
	}
}

// P3.3

// model is a disk of plain texts.
type model struct {
	sectors               []string
	sealed, reads, writes int
}

func (m *model) read(at int) (string, api.Errno) {
	if at < 0 || at >= len(m.sectors) {
		return "", api.ErrRange
	}
	m.reads++
	return m.sectors[at], api.OK
}

func (m *model) write(at int, s string) api.Errno {
	switch {
	case at < 0 || at >= len(m.sectors):
		return api.ErrRange
	case len(s) != page:
		return api.ErrArg
	case at < m.sealed:
		return api.ErrState
	}
	m.writes++
	m.sectors[at] = s
	return api.OK
}

// draws tells numbers below a bound, the same ones each time.
func draws(seed uint64) func(below int) int {
	return func(below int) int {
		seed = seed*6364136223846793005 + 1442695040888963407
		return int(seed >> 33 % uint64(below))
	}
}

// step is one call of a disk and of its model.
func step(t *testing.T, draw func(int) int, d *block.Disk, m *model) {
	t.Helper()
	at := draw(len(m.sectors)+4) - 2
	switch draw(8) {
	case 0, 1, 2:
		got, err := d.Read(at)
		if want, e := m.read(at); got != want || err != e {
			t.Fatalf("Read(%d): %x %d, want %x %d", at, got, err, want, e)
		}
	case 3, 4, 5, 6:
		long := page
		if draw(6) == 0 {
			long = lengths[draw(len(lengths))]
		}
		s := bytes(draw(1000), long)
		if err, want := d.Write(at, s), m.write(at, s); err != want {
			t.Fatalf("Write(%d), %d bytes: %d, want %d", at, long, err, want)
		}
	default:
		if draw(10) == 0 {
			d.Seal(at)
			m.sealed = max(m.sealed, at)
		}
	}
	counts(t, "lockstep", d, m.reads, m.writes)
}

func TestLockstep(t *testing.T) {
	for seed := range 60 {
		draw := draws(uint64(seed))
		n := 1 + draw(9)
		d, m := block.New(n), &model{sectors: make([]string, n)}
		for i := range m.sectors {
			m.sectors[i] = whole("")
		}
		for range 400 {
			step(t, draw, d, m)
		}
		has(t, "in the end", d, m.sectors)
	}
}

func TestDisksAreApart(t *testing.T) {
	l := []string{"a", "b"}
	one, two, three := block.Of(l...), block.Of(l...), block.New(2)
	write(t, one, 0, bytes(1, page))
	one.Seal(2)
	write(t, two, 1, bytes(2, page))
	write(t, three, 0, bytes(3, page))
	counts(t, "one", one, 0, 1)
	has(t, "one", one, []string{bytes(1, page), whole("b")})
	has(t, "two", two, []string{whole("a"), bytes(2, page)})
	has(t, "three", three, []string{bytes(3, page), whole("")})
	counts(t, "two", two, 2, 1)
}

// nothing asks a disk without sectors, of which all uses tell one error.
func nothing(t *testing.T, what string, d *block.Disk, want api.Errno) {
	t.Helper()
	for _, at := range append([]int{0, 1}, edges...) {
		if s, err := d.Read(at); s != "" || err != want {
			t.Errorf("%s: Read(%d): %x %d, want %d", what, at, s, err, want)
		}
		for _, long := range append([]int{page}, lengths...) {
			if err := d.Write(at, bytes(1, long)); err != want {
				t.Errorf("%s: Write(%d), %d bytes: %d, want %d", what, at, long, err, want)
			}
		}
		d.Seal(at)
		if n := d.Sectors(); n != 0 {
			t.Errorf("%s: %d sectors", what, n)
		}
		counts(t, what, d, 0, 0)
	}
}

func TestNilAndZero(t *testing.T) {
	nothing(t, "nil", nil, api.ErrArg)
	nothing(t, "nil of New", block.New(0), api.ErrArg)
	nothing(t, "nil of Of", block.Of(), api.ErrArg)
	nothing(t, "zero", new(block.Disk), api.ErrRange)
	var d block.Disk
	nothing(t, "zero", &d, api.ErrRange)
}
