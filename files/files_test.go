package files_test

import (
	"math"
	"reflect"
	"strconv"
	"strings"
	"testing"

	"flyleaf/api"
	"flyleaf/block"
	"flyleaf/files"
)

// The numbers are written out: a test that asked api for them would follow it if it were wrong.
const (
	page    = 64
	sectors = 16384
	inodes  = 64
	size    = 1 << 20
)

// edges are numbers of int of which there is no file and no page; of some of them the place of the bytes, at 64 each, wraps round to one that there is.
var edges = []int{
	math.MinInt, math.MinInt + 1, -1 << 58, -1<<58 + 1, -65, -64, -2, -1,
	sectors, sectors + 1, 1 << 32, 1 << 57, 1 << 58, 1<<58 + 1, 1 << 62, math.MaxInt - 1, math.MaxInt,
}

// lengths are those of files at the ends of sectors.
var lengths = []int{0, 1, 2, 63, 64, 65, 127, 128, 129, 191, 192, 193, 256, 257, 320, 321, 500, 1024, 4095}

// bytes is a text of n bytes that tell their place, and whose they are.
func bytes(seed, n int) string {
	b := make([]byte, n)
	for i := range b {
		b[i] = byte(seed*37 + i*5 + i/page*11 + 1)
	}
	return string(b)
}

// whole is s as a sector has it.
func whole(s string) string {
	return s + strings.Repeat("\x00", page-len(s))
}

// put is the model of numbers in bytes.
func put(n, width int) string {
	s := ""
	for range width {
		s += string([]byte{byte(n % 256)})
		n /= 256
	}
	return s
}

// get is the model of numbers out of bytes.
func get(s string, at, width int) int {
	n := 0
	for i := width - 1; i >= 0; i-- {
		n = n*256 + int(s[at+i])
	}
	return n
}

// head is a sector 0.
func head(count, used int) string {
	return whole("FLY1" + put(count, 2) + put(used, 4))
}

// entry is a file's own sector; l are the first sector and the number of sectors of each extent.
func entry(name string, size int, l ...int) string {
	s := name + strings.Repeat("\x00", 24-len(name)) + put(size, 4) + put(len(l)/2, 2)
	for _, n := range l {
		s += put(n, 2)
	}
	return whole(s)
}

// counted is how many sectors so many bytes take.
func counted(size int) int {
	n := 0
	for n*page < size {
		n++
	}
	return n
}

// built is the model of Build: each page of a file is of the part that its number by stride tells, but for the last part, which has no end.
func built(l []api.File, stride int) []string {
	at := 1 + len(l)
	entries := make([]string, len(l))
	extents := make([][]int, len(l))
	row := []string{}
	for part := range 4 {
		for i, f := range l {
			n := 0
			for p := range counted(len(f.Data)) {
				if min(p/stride, 3) == part {
					row = append(row, whole(f.Data[p*page:min(p*page+page, len(f.Data))]))
					n++
				}
			}
			if n > 0 {
				extents[i] = append(extents[i], at, n)
				at += n
			}
		}
	}
	for i, f := range l {
		entries[i] = entry(f.Name, len(f.Data), extents[i]...)
	}
	return append(append([]string{head(len(l), at)}, entries...), row...)
}

// blank tells whether there are bytes 0 alone.
func blank(s string) bool {
	return strings.Trim(s, "\x00") == ""
}

// parsed is the model of a file's own sector.
func parsed(s string, first, used int) (api.Inode, bool) {
	name, rest, _ := strings.Cut(s[:24], "\x00")
	x := api.Inode{Name: name, Size: get(s, 24, 4)}
	many := get(s, 28, 2)
	if name == "" || !blank(rest) || x.Size > size || many > 4 || !blank(s[30+4*many:]) {
		return x, false
	}
	all := 0
	for i := range many {
		e := api.Extent{At: get(s, 30+4*i, 2), N: get(s, 32+4*i, 2)}
		if e.N == 0 || e.At < first || e.At+e.N > used {
			return x, false
		}
		x.Extents = append(x.Extents, e)
		all += e.N
	}
	return x, all == counted(x.Size)
}

// opened is the model of Open: the files, how many sectors are used, and whether it is a disk of files.
func opened(l []string) ([]api.Inode, int, bool) {
	if len(l) == 0 || !strings.HasPrefix(l[0], "FLY1") || !blank(l[0][10:]) {
		return nil, 0, false
	}
	count, used := get(l[0], 4, 2), get(l[0], 6, 4)
	if count > inodes || used < 1+count || used > len(l) {
		return nil, 0, false
	}
	all := []api.Inode{}
	for i := range count {
		x, ok := parsed(l[1+i], 1+count, used)
		for _, y := range all {
			ok = ok && x.Name != y.Name
		}
		if !ok {
			return nil, 0, false
		}
		all = append(all, x)
	}
	return all, used, true
}

// content is the model of a file's bytes.
func content(l []string, x api.Inode) string {
	s := ""
	for _, e := range x.Extents {
		s += strings.Join(l[e.At:e.At+e.N], "")
	}
	return s[:x.Size]
}

// sameInode tells whether both say the same of a file.
func sameInode(a, b api.Inode) bool {
	return a.Name == b.Name && a.Size == b.Size && len(a.Extents) == len(b.Extents) && (len(a.Extents) == 0 || reflect.DeepEqual(a.Extents, b.Extents))
}

// asks asks all of one file.
func asks(t *testing.T, f *files.Files, i int, want api.Inode, data string) {
	t.Helper()
	if x, err := f.Inode(i); !sameInode(x, want) || err != api.OK {
		t.Fatalf("Inode(%d): %v %d, want %v", i, x, err, want)
	}
	if n, err := f.Lookup(want.Name); n != i || err != api.OK {
		t.Fatalf("Lookup(%q): %d %d, want %d", want.Name, n, err, i)
	}
	if s, err := f.Bytes(i); s != data || err != api.OK {
		t.Fatalf("Bytes(%d): %d bytes, %d, want %d bytes: %x", i, len(s), err, len(data), s)
	}
	n := counted(len(data))
	if got := f.Pages(i); got != n {
		t.Fatalf("Pages(%d): %d, want %d", i, got, n)
	}
	for p := range n {
		w := whole(data[p*page : min(p*page+page, len(data))])
		if s, err := f.Page(i, p); s != w || err != api.OK {
			t.Fatalf("Page(%d, %d): %x %d, want %x", i, p, s, err, w)
		}
	}
	for _, p := range append([]int{n, n + 1}, edges...) {
		if p < 0 || p >= n {
			if s, err := f.Page(i, p); s != "" || err != api.ErrRange {
				t.Fatalf("Page(%d, %d) of %d: %x %d, want ErrRange", i, p, n, s, err)
			}
		}
	}
}

// asksNone asks for a file that there is not.
func asksNone(t *testing.T, f *files.Files, i int) {
	t.Helper()
	if x, err := f.Inode(i); !reflect.DeepEqual(x, api.Inode{}) || err != api.ErrRange {
		t.Fatalf("Inode(%d): %v %d, want ErrRange", i, x, err)
	}
	if s, err := f.Bytes(i); s != "" || err != api.ErrRange {
		t.Fatalf("Bytes(%d): %x %d, want ErrRange", i, s, err)
	}
	if n := f.Pages(i); n != 0 {
		t.Fatalf("Pages(%d): %d, want 0", i, n)
	}
	for _, p := range append([]int{0, 1}, edges...) {
		if s, err := f.Page(i, p); s != "" || err != api.ErrRange {
			t.Fatalf("Page(%d, %d): %x %d, want ErrRange", i, p, s, err)
		}
	}
}

// asksName asks for a name that there is not.
func asksName(t *testing.T, f *files.Files, name string) {
	t.Helper()
	if n, err := f.Lookup(name); n != 0 || err != api.ErrNone {
		t.Fatalf("Lookup(%q): %d %d, want ErrNone", name, n, err)
	}
}

// holds opens a disk of these sectors, and holds it against the model; it tells whether it was opened.
func holds(t *testing.T, what string, l []string) bool {
	t.Helper()
	all, used, ok := opened(l)
	f, err := files.Open(block.Of(l...))
	if !ok {
		if f != nil || err != api.ErrForm {
			t.Fatalf("%s: %v %d, want ErrForm", what, f, err)
		}
		return false
	}
	if f == nil || err != api.OK {
		t.Fatalf("%s: %v %d, want OK", what, f, err)
	}
	if f.Count() != len(all) || f.Sectors() != used {
		t.Fatalf("%s: %d files, %d sectors, want %d, %d", what, f.Count(), f.Sectors(), len(all), used)
	}
	for i, x := range all {
		asks(t, f, i, x, content(l, x))
	}
	for _, i := range append([]int{len(all), len(all) + 1}, edges...) {
		asksNone(t, f, i)
	}
	for _, name := range []string{"", "\x00", "no", "no\x00", strings.Repeat("o", 24), strings.Repeat("n", 25), strings.Repeat("n", 4096)} {
		asksName(t, f, name)
	}
	return true
}

// build is the sectors of files that may be.
func build(t *testing.T, l []api.File, stride int) []string {
	t.Helper()
	s, err := files.Build(l, stride)
	if err != api.OK {
		t.Fatalf("Build of %d files, %d: %d, want OK", len(l), stride, err)
	}
	return s
}

// open is the files of these sectors.
func open(t *testing.T, l []string) *files.Files {
	t.Helper()
	f, err := files.Open(block.Of(l...))
	if f == nil || err != api.OK {
		t.Fatalf("Open: %v %d, want OK", f, err)
	}
	return f
}

// refused asks that Build tells an error and nothing else.
func refused(t *testing.T, what string, l []api.File, stride int, want api.Errno) {
	t.Helper()
	if s, err := files.Build(l, stride); len(s) != 0 || err != want {
		t.Errorf("%s: Build: %d sectors, %d, want %d", what, len(s), err, want)
	}
}

// many are n files with names and so many bytes each.
func many(n, size int) []api.File {
	l := make([]api.File, n)
	for i := range l {
		l[i] = api.File{Name: "f" + strconv.Itoa(i), Data: bytes(i, size)}
	}
	return l
}

// names are those that may be.
func names() []string {
	l := []string{"a", " ", "\x01", "\xff", "/", "..", "a b", "\xc3\xa4", "libc.so.6", "\n", strings.Repeat("x", 23), strings.Repeat("\xff", 24)}
	for n := 1; n <= 24; n++ {
		l = append(l, strings.Repeat("n", n-1)+"m")
	}
	return l
}

// noNames are those that may not be.
func noNames() []string {
	l := []string{"", strings.Repeat("n", 25), strings.Repeat("n", 26), strings.Repeat("n", 4096), strings.Repeat("\x00", 24), strings.Repeat("n", 24) + "\x00"}
	for n := 1; n <= 25; n++ {
		for at := range n {
			l = append(l, strings.Repeat("n", at)+"\x00"+strings.Repeat("n", n-at-1))
		}
	}
	return l
}

func TestLimits(t *testing.T) {
	if api.Page != page || api.MaxSectors != sectors || api.MaxInodes != inodes || api.MaxName != 24 || api.MaxExtents != 4 {
		t.Fatalf("Page %d, MaxSectors %d, MaxInodes %d, MaxName %d, MaxExtents %d", api.Page, api.MaxSectors, api.MaxInodes, api.MaxName, api.MaxExtents)
	}
}

// P4.1

func TestCheck(t *testing.T) {
	for _, name := range names() {
		if !files.Check(name) {
			t.Errorf("Check(%q): false", name)
		}
	}
	for _, name := range noNames() {
		if files.Check(name) {
			t.Errorf("Check(%q): true", name)
		}
	}
}

// is asks for all sectors, one by one.
func is(t *testing.T, what string, got, want []string) {
	t.Helper()
	if len(got) != len(want) {
		t.Fatalf("%s: %d sectors, want %d", what, len(got), len(want))
	}
	for i := range want {
		if got[i] != want[i] {
			t.Fatalf("%s: sector %d: %x, want %x", what, i, got[i], want[i])
		}
	}
}

func TestBuildOfOneFile(t *testing.T) {
	is(t, "a, hello", build(t, []api.File{{Name: "a", Data: "hello"}}, 1), []string{
		"FLY1" + "\x01\x00" + "\x03\x00\x00\x00" + strings.Repeat("\x00", 54),
		"a" + strings.Repeat("\x00", 23) + "\x05\x00\x00\x00" + "\x01\x00" + "\x02\x00\x01\x00" + strings.Repeat("\x00", 30),
		"hello" + strings.Repeat("\x00", 59),
	})
}

func TestBuildOfNoFile(t *testing.T) {
	for _, l := range [][]api.File{nil, {}} {
		is(t, "no file", build(t, l, 1), []string{"FLY1\x00\x00\x01" + strings.Repeat("\x00", 57)})
	}
}

func TestBuildOfEmptyFiles(t *testing.T) {
	full := strings.Repeat("e", 24)
	is(t, "empty files", build(t, []api.File{{Name: full}, {Name: "b"}}, 3), []string{
		"FLY1\x02\x00\x03" + strings.Repeat("\x00", 57),
		full + strings.Repeat("\x00", 40),
		"b" + strings.Repeat("\x00", 63),
	})
}

// TestBuildStandsInTurns has files of which one ends ahead of the other's second part, and one that goes on behind the third.
func TestBuildStandsInTurns(t *testing.T) {
	a, b, c := bytes(1, 9*page), bytes(2, page+1), bytes(3, 5*page-1)
	got := build(t, []api.File{{Name: "a", Data: a}, {Name: "b", Data: b}, {Name: "none"}, {Name: "c", Data: c}}, 2)
	part := func(s string, from, n int) string { return s[from*page : min(from*page+n*page, len(s))] }
	is(t, "turns", got[:5], []string{
		head(4, 21),
		entry("a", 9*page, 5, 2, 11, 2, 15, 2, 18, 3),
		entry("b", page+1, 7, 2),
		entry("none", 0),
		entry("c", 5*page-1, 9, 2, 13, 2, 17, 1),
	})
	all := part(a, 0, 2) + whole2(part(b, 0, 2)) + part(c, 0, 2) + part(a, 2, 2) + part(c, 2, 2) + part(a, 4, 2) + part(c, 4, 1) + "\x00" + part(a, 6, 3)
	if s := strings.Join(got[5:], ""); s != all {
		t.Errorf("parts: %x, want %x", s, all)
	}
}

// whole2 is s as two sectors have it.
func whole2(s string) string {
	return s[:page] + whole(s[page:])
}

func TestBuildAtAllLengthsAndStrides(t *testing.T) {
	for _, stride := range []int{1, 2, 3, 4, 5, 7, 16, 63, 64, 65, 1 << 20, 1 << 62, math.MaxInt / 3, math.MaxInt/3 + 1, math.MaxInt - 1, math.MaxInt} {
		l := []api.File{}
		for i, n := range lengths {
			one := []api.File{{Name: "one", Data: bytes(i, n)}}
			is(t, "one of "+strconv.Itoa(n), build(t, one, stride), built(one, stride))
			l = append(l, api.File{Name: "f" + strconv.Itoa(i), Data: bytes(i, n)})
		}
		is(t, "all by "+strconv.Itoa(stride), build(t, l, stride), built(l, stride))
	}
}

func TestBuildOfWrongArguments(t *testing.T) {
	a, b := api.File{Name: "a", Data: "hello"}, api.File{Name: "b"}
	for _, stride := range []int{0, -1, -2, -64, math.MinInt32, math.MinInt + 1, math.MinInt} {
		for _, l := range [][]api.File{nil, {a}, {a, b}, many(65, 1), {{Name: "a", Data: bytes(1, size+1)}}} {
			refused(t, "stride "+strconv.Itoa(stride), l, stride, api.ErrArg)
		}
	}
	for _, name := range noNames() {
		no := api.File{Name: name, Data: "x"}
		for _, l := range [][]api.File{{no}, {a, no}, {no, a}, {a, no, b}} {
			refused(t, "name "+strconv.Quote(name), l, 1, api.ErrArg)
		}
	}
	for _, l := range [][]api.File{{a, a}, {a, b, a}, {b, a, a}, {a, {Name: "a", Data: "other"}}} {
		refused(t, "twice", l, 1, api.ErrArg)
	}
}

func TestBuildTellsWrongArgumentsFirst(t *testing.T) {
	long := bytes(1, size+1)
	for _, l := range [][]api.File{
		append(many(64, 1), api.File{Name: "f0"}),
		append(many(64, 1), api.File{Name: ""}),
		append(many(70, 1), api.File{Name: "f69"}),
		append(many(70, 1), api.File{Name: strings.Repeat("n", 25)}),
		{{Name: "a", Data: long}, {Name: "a"}},
		{{Name: "a", Data: long}, {Name: "b\x00"}},
		{{Name: "", Data: long}},
	} {
		refused(t, "wrong and more", l, 1, api.ErrArg)
	}
}

func TestBuildOfAsManyFilesAsMayBe(t *testing.T) {
	for _, n := range []int{63, 64} {
		l := many(n, 70)
		is(t, strconv.Itoa(n)+" files", build(t, l, 1), built(l, 1))
	}
	for _, n := range []int{65, 66, 128, 1000, 70000} {
		refused(t, strconv.Itoa(n)+" files", many(n, 0), 1, api.ErrFull)
	}
}

func TestBuildOfAsManySectorsAsMayBe(t *testing.T) {
	for _, stride := range []int{1, 1000, 4096, sectors, math.MaxInt} {
		l := []api.File{{Name: "a", Data: bytes(1, (sectors-2)*page)}}
		is(t, "one", build(t, l, stride), built(l, stride))
		l[0].Data += "x"
		refused(t, "one and one byte", l, stride, api.ErrFull)
		l = many(64, 255*page)
		l[63].Data = bytes(9, 254*page)
		is(t, "64", build(t, l, stride), built(l, stride)[:sectors])
		l[63].Data += "x"
		refused(t, "64 and one byte", l, stride, api.ErrFull)
	}
}

// TestBuildOfTooLong: of a file that is too long the sectors are too many as well, and that is named first.
func TestBuildOfTooLong(t *testing.T) {
	for _, n := range []int{size - 2*page + 1, size - 1, size, size + 1, size + page, 2 * size, 16 * size} {
		refused(t, strconv.Itoa(n)+" bytes", []api.File{{Name: "a", Data: bytes(1, n)}}, 1, api.ErrFull)
		refused(t, strconv.Itoa(n)+" bytes behind", []api.File{{Name: "a"}, {Name: "b", Data: bytes(1, n)}}, math.MaxInt, api.ErrFull)
	}
}

func TestBuildLeavesTheList(t *testing.T) {
	l, want := many(5, 200), many(5, 200)
	s := build(t, l, 1)
	if !reflect.DeepEqual(l, want) {
		t.Errorf("the list that was handed in: %v", l)
	}
	told := append([]string(nil), s...)
	clear(l)
	is(t, "behind", s, told)
	clear(s)
	is(t, "again", build(t, want, 1), told)
}

// P4.2

func TestOpenOfNoDisk(t *testing.T) {
	if f, err := files.Open(nil); f != nil || err != api.ErrArg {
		t.Errorf("Open(nil): %v %d, want ErrArg", f, err)
	}
	if f, err := files.Open(new(block.Disk)); f != nil || err != api.ErrForm {
		t.Errorf("Open of a zero disk: %v %d, want ErrForm", f, err)
	}
}

// good asks that these sectors are opened, wrong that they are not; the model has to say so, too.
func good(t *testing.T, what string, l ...string) {
	t.Helper()
	if !holds(t, what, l) {
		t.Errorf("%s: the model has it wrong", what)
	}
}

func wrong(t *testing.T, what string, l ...string) {
	t.Helper()
	if holds(t, what, l) {
		t.Errorf("%s: the model has it good", what)
	}
}

func TestOpenOfSectorZero(t *testing.T) {
	good(t, "no file", head(0, 1))
	good(t, "more sectors", head(0, 1), bytes(1, page), bytes(2, page))
	good(t, "more used", head(0, 3), bytes(1, page), bytes(2, page))
	good(t, "one", head(1, 2), entry("a", 0))
	wrong(t, "nothing", whole(""))
	wrong(t, "other first bytes", whole("FLY2"+put(0, 2)+put(1, 4)))
	wrong(t, "other first bytes", whole("fly1"+put(0, 2)+put(1, 4)))
	wrong(t, "none used", head(0, 0))
	wrong(t, "fewer used than there are", head(1, 1), entry("a", 0))
	wrong(t, "fewer used than there are", head(2, 2), entry("a", 0), entry("b", 0), whole(""))
	wrong(t, "more used than there are", head(0, 2))
	wrong(t, "more used than there are", head(1, 4), entry("a", 1, 2, 1), whole("x"))
	for _, used := range []int{257, 65537, 1<<24 + 1, 1 << 31, 1<<32 - 1} {
		wrong(t, "more used than there are", head(0, used))
	}
	for at := 10; at < page; at++ {
		s := []byte(head(0, 1))
		s[at] = 1
		wrong(t, "behind it", string(s))
	}
}

func TestOpenOfAsManyFilesAsMayBe(t *testing.T) {
	l := []string{}
	for i := range 300 {
		l = append(l, entry("f"+strconv.Itoa(i), 0))
	}
	for _, n := range []int{1, 2, 63, 64} {
		good(t, strconv.Itoa(n), append([]string{head(n, n+1)}, l...)...)
	}
	for _, n := range []int{65, 66, 127, 128, 256, 257, 299} {
		wrong(t, strconv.Itoa(n), append([]string{head(n, n+1)}, l...)...)
	}
	wrong(t, "65535", append([]string{head(65535, 65)}, l...)...)
}

func TestOpenOfNames(t *testing.T) {
	for _, name := range names() {
		good(t, "name", head(1, 2), entry(name, 0))
		good(t, "name", head(2, 4), entry("other", 0), entry(name, 5, 3, 1), bytes(1, page))
		wrong(t, "twice", head(2, 3), entry(name, 0), entry(name, 0))
		wrong(t, "twice", head(3, 5), entry(name, 0), entry("other", 0), entry(name, 1, 4, 1), whole("x"))
	}
	for n := 2; n <= 24; n++ {
		for at := range n - 1 {
			wrong(t, "a byte 0 in it", head(1, 2), entry(strings.Repeat("n", at)+"\x00"+strings.Repeat("n", n-at-1), 0))
		}
	}
	wrong(t, "empty", head(1, 2), entry("", 0))
	wrong(t, "empty", head(2, 3), entry("a", 0), entry("", 0))
	wrong(t, "at the end", head(1, 2), entry("a"+strings.Repeat("\x00", 22)+"b", 0))
	good(t, "begin alike", head(2, 3), entry(strings.Repeat("n", 24), 0), entry(strings.Repeat("n", 23), 0))
}

func TestOpenOfSizes(t *testing.T) {
	row := func(e string, n int) []string {
		l := []string{head(1, 2+n), e}
		for i := range n {
			l = append(l, bytes(i, page))
		}
		return l
	}
	for n := range 6 {
		for size := range 6*page + 2 {
			// Of n sectors just the sizes of the last one's bytes are good.
			for _, e := range []string{entry("a", size, 2, n), entry("a", size, 2, 1, 3, n-1), entry("a", size, 3, n-1, 2, 1)} {
				if holds(t, "sizes", row(e, n)) && (n == 0 || size <= (n-1)*page || size > n*page) {
					t.Fatalf("%d bytes in %d sectors", size, n)
				}
			}
			if size > 0 {
				wrong(t, "no extents", row(entry("a", size), n)...)
			}
		}
	}
	good(t, "full size in one row four times", row(entry("a", size, 2, 4096, 2, 4096, 2, 4096, 2, 4096), 4096)...)
	good(t, "full size but a byte", row(entry("a", size-1, 2, 4096, 3, 4096, 4, 4096, 5, 4096), 4099)...)
	wrong(t, "a byte more", row(entry("a", size+1, 2, 4096, 2, 4096, 2, 4096, 2, 4097), 4097)...)
	wrong(t, "twice as much", row(entry("a", 2*size, 2, 8192, 2, 8192, 2, 8192, 2, 8192), 8192)...)
	for _, n := range []int{1 << 24, 1 << 31, 1<<32 - 1} {
		wrong(t, "far more", row(entry("a", n, 2, 4), 4)...)
	}
}

func TestOpenOfExtents(t *testing.T) {
	row := func(e string) []string {
		return []string{head(2, 8), entry("b", 0), e, bytes(3, page), bytes(4, page), bytes(5, page), bytes(6, page), bytes(7, page), bytes(8, page), bytes(9, page)}
	}
	good(t, "one", row(entry("a", 5*page, 3, 5))...)
	good(t, "in four", row(entry("a", 5*page-9, 7, 1, 3, 1, 4, 2, 6, 1))...)
	good(t, "of another length each", row(entry("a", 5*page, 4, 3, 7, 1, 3, 1))...)
	good(t, "they meet", row(entry("a", 5*page, 3, 2, 3, 2, 4, 1))...)
	good(t, "with another file's", head(2, 4), entry("a", 7, 3, 1), entry("b", 64, 3, 1), bytes(1, page))
	wrong(t, "five", row(entry("a", 5*page, 3, 1, 4, 1, 5, 1, 6, 1, 7, 1))...)
	wrong(t, "five, one of them of none", row(entry("a", 4*page, 3, 1, 4, 1, 5, 1, 6, 1, 7, 0))...)
	wrong(t, "of none", row(entry("a", 0, 3, 0))...)
	wrong(t, "of none behind", row(entry("a", page, 3, 1, 4, 0))...)
	wrong(t, "of none ahead", row(entry("a", page, 4, 0, 3, 1))...)
	wrong(t, "an empty file has one", row(entry("a", 0, 3, 1))...)
	wrong(t, "too many sectors", row(entry("a", 64, 3, 2))...)
	wrong(t, "too few sectors", row(entry("a", 129, 3, 2))...)
	wrong(t, "at the files' own sectors", row(entry("a", 64, 2, 1))...)
	wrong(t, "at the files' own sectors", row(entry("a", 128, 2, 2))...)
	wrong(t, "at sector 0", row(entry("a", 64, 0, 1))...)
	wrong(t, "at sector 0 behind", row(entry("a", 128, 3, 1, 0, 1))...)
	wrong(t, "behind the used ones", row(entry("a", 64, 8, 1))...)
	wrong(t, "over their end", row(entry("a", 128, 7, 2))...)
	wrong(t, "over their end in the last one", row(entry("a", 5*page, 3, 1, 4, 1, 5, 1, 7, 2))...)
	wrong(t, "far behind", row(entry("a", 64, 65535, 1))...)
	for _, n := range []int{6, 256, 257, 32768, 65535} {
		s := row(entry("a", 5*page, 3, 5))
		s[2] = s[2][:28] + put(n, 2) + s[2][30:]
		wrong(t, "as many as there can't be", s...)
	}
}

// TestOpenOfEachByte sets each byte of the sectors that say where files are to each other one.
func TestOpenOfEachByte(t *testing.T) {
	l := build(t, []api.File{{Name: "a", Data: bytes(1, 300)}, {Name: strings.Repeat("b", 24), Data: bytes(2, 65)}, {Name: "c"}}, 1)
	good(t, "as it was built", l...)
	for i := range 4 {
		for at := range page {
			for b := range 256 {
				s := []byte(l[i])
				s[at] = byte(b)
				m := append([]string(nil), l...)
				m[i] = string(s)
				holds(t, "sector "+strconv.Itoa(i)+", byte "+strconv.Itoa(at)+": "+strconv.Itoa(b), m)
			}
		}
	}
}

func TestOpenBehindTheEndOfAFile(t *testing.T) {
	l := build(t, []api.File{{Name: "a", Data: bytes(1, 70)}, {Name: "b", Data: bytes(2, 1)}}, 1)
	l[4] = l[4][:1] + strings.Repeat("?", 63)
	l[5] = l[5][:6] + strings.Repeat("!", 58)
	good(t, "other bytes there", l...)
	f := open(t, l)
	if s, err := f.Page(0, 1); s != whole(bytes(1, 70)[64:]) || err != api.OK {
		t.Errorf("Page(0, 1): %x %d", s, err)
	}
	if s, err := f.Bytes(1); s != bytes(2, 1) || err != api.OK {
		t.Errorf("Bytes(1): %x %d", s, err)
	}
}

func TestOpenOfALargerDisk(t *testing.T) {
	for _, n := range []int{0, 1, 5, 1000} {
		l := build(t, many(3, 500), 2)
		used := len(l)
		for i := range n {
			l = append(l, bytes(i, page))
		}
		good(t, "larger", l...)
		if got := open(t, l).Sectors(); got != used {
			t.Errorf("%d more: %d sectors, want %d", n, got, used)
		}
		for cut := range used {
			if cut > 0 {
				wrong(t, "smaller", l[:cut]...)
			}
		}
	}
}

// draws tells numbers below a bound, the same ones each time.
func draws(seed uint64) func(below int) int {
	return func(below int) int {
		seed = seed*6364136223846793005 + 1442695040888963407
		return int(seed >> 33 % uint64(below))
	}
}

// drawn are some files of some bytes.
func drawn(draw func(int) int) []api.File {
	l := many(draw(6), 0)
	for i := range l {
		l[i].Data = bytes(draw(1000), lengths[draw(len(lengths))]+draw(3))
	}
	return l
}

// TestOpenOfChangedDisks changes some bytes and numbers, mostly to ones that are near.
func TestOpenOfChangedDisks(t *testing.T) {
	opened, all := 0, 4000
	for seed := range all {
		draw := draws(uint64(seed))
		l := build(t, drawn(draw), 1+draw(4))
		count := get(l[0], 4, 2)
		for range 1 + draw(3) {
			i := draw(1 + count)
			at := []int{4, 6, 24, 28, 30, 32, 34, 36, 38, 40, 42, 44, 46, draw(page), draw(24)}[draw(15)]
			n := min(max(get(l[i], at, 1)+draw(7)-3, 0), 255)
			l[i] = l[i][:at] + put(n, 1) + l[i][at+1:]
		}
		if draw(4) == 0 {
			l = append(l, bytes(1, page), bytes(2, page))
		}
		if holds(t, "seed "+strconv.Itoa(seed), l) {
			opened++
		}
	}
	if opened == 0 || opened == all {
		t.Errorf("%d of %d were opened", opened, all)
	}
}

// P4.3

func TestExample(t *testing.T) {
	f := open(t, build(t, []api.File{{Name: "a", Data: "hello"}}, 1))
	if n, err := f.Lookup("a"); n != 0 || err != api.OK {
		t.Errorf("Lookup: %d %d", n, err)
	}
	if s, err := f.Page(0, 0); s != "hello"+strings.Repeat("\x00", 59) || err != api.OK {
		t.Errorf("Page: %x %d", s, err)
	}
	if f.Count() != 1 || f.Pages(0) != 1 || f.Sectors() != 3 {
		t.Errorf("%d files, %d pages, %d sectors", f.Count(), f.Pages(0), f.Sectors())
	}
}

func TestLookupOfPartsOfNames(t *testing.T) {
	full := strings.Repeat("n", 24)
	f := open(t, build(t, []api.File{{Name: "libc.so"}, {Name: full}, {Name: "A"}}, 1))
	for i, name := range []string{"libc.so", full, "A"} {
		if n, err := f.Lookup(name); n != i || err != api.OK {
			t.Errorf("Lookup(%q): %d %d, want %d", name, n, err, i)
		}
	}
	for _, name := range []string{"libc.s", "libc.so.6", "ibc.so", "libc.so\x00", "a", full[:23], full + "n", full + "\x00", "LIBC.SO"} {
		asksName(t, f, name)
	}
}

func TestWhatIsToldIsItsOwners(t *testing.T) {
	l := build(t, many(3, 600), 2)
	f := open(t, l)
	first, _ := f.Inode(1)
	for i := range first.Extents {
		first.Extents[i] = api.Extent{At: 0, N: 1}
	}
	first.Extents = append(first.Extents[:1], api.Extent{At: -1, N: -1})
	all, _, _ := opened(l)
	for i, x := range all {
		asks(t, f, i, x, bytes(i, 600))
	}
}

func TestWhatWasHandedIn(t *testing.T) {
	l := build(t, many(3, 600), 2)
	d := block.Of(l...)
	one, _ := files.Open(d)
	two, _ := files.Open(d)
	for _, f := range []*files.Files{one, two} {
		for i := range 3 {
			if s, err := f.Bytes(i); s != bytes(i, 600) || err != api.OK {
				t.Errorf("Bytes(%d): %x %d", i, s, err)
			}
		}
	}
	if d.Writes() != 0 {
		t.Errorf("%d sectors of the disk were written", d.Writes())
	}
	for i, w := range l {
		if s, err := d.Read(i); s != w || err != api.OK {
			t.Errorf("sector %d of the disk: %x %d, want %x", i, s, err, w)
		}
	}
	if err := d.Write(len(l)-1, bytes(1, page)); err != api.OK {
		t.Errorf("the disk was sealed: %d", err)
	}
}

// TestADiskThatIsNoMore has its owner take all sectors away.
func TestADiskThatIsNoMore(t *testing.T) {
	d := block.Of(build(t, many(2, 300), 1)...)
	f, _ := files.Open(d)
	*d = block.Disk{}
	if s, err := f.Page(1, 0); s != "" || err == api.OK {
		t.Errorf("Page: %x %d", s, err)
	}
	if s, err := f.Bytes(1); s != "" || err == api.OK {
		t.Errorf("Bytes: %x %d", s, err)
	}
}

func TestNilAndZero(t *testing.T) {
	for _, f := range []*files.Files{nil, new(files.Files)} {
		if f.Count() != 0 || f.Sectors() != 0 {
			t.Errorf("%d files, %d sectors", f.Count(), f.Sectors())
		}
		for _, i := range append([]int{0, 1}, edges...) {
			asksNone(t, f, i)
		}
		for _, name := range append(names(), noNames()...) {
			asksName(t, f, name)
		}
	}
}

// P4.4

func TestWhatWasBuiltIsOpened(t *testing.T) {
	for seed := range 300 {
		draw := draws(uint64(seed) + 1000)
		l := drawn(draw)
		row := build(t, l, 1+draw(9))
		good(t, "built", row...)
		f := open(t, row)
		if f.Count() != len(l) || f.Sectors() != len(row) {
			t.Fatalf("%d files, %d sectors, want %d, %d", f.Count(), f.Sectors(), len(l), len(row))
		}
		for i, x := range l {
			n, err := f.Lookup(x.Name)
			if n != i || err != api.OK {
				t.Fatalf("Lookup(%q): %d %d, want %d", x.Name, n, err, i)
			}
			if s, err := f.Bytes(n); s != x.Data || err != api.OK {
				t.Fatalf("Bytes(%d): %x %d, want %x", n, s, err, x.Data)
			}
		}
	}
}

func TestAFullDiskIsOpened(t *testing.T) {
	for _, stride := range []int{1, 100, math.MaxInt} {
		good(t, "one", build(t, []api.File{{Name: "a", Data: bytes(1, (sectors-2)*page)}}, stride)...)
		good(t, "64", build(t, many(64, 253*page+1), stride)...)
	}
}
