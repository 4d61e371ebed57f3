package stack_test

import (
	"encoding/binary"
	"encoding/hex"
	"math"
	"slices"
	"strings"
	"testing"

	"flyleaf/api"
	"flyleaf/stack"
)

// The numbers are written out: a test that asked the program for them would follow it if it were wrong.
const (
	top      = 262144
	most     = 1024
	mostText = 1024
	mostRead = 128
	highest  = 1 << 40

	isArg  = 1
	isSize = 11
)

// edges are numbers at which the rules change, and those of int at which sums and differences go wrong first.
var edges = []int{
	math.MinInt, math.MinInt + 1, math.MinInt + 16, math.MinInt + highest, -1 << 62, -highest - 1, -highest, 16 - highest, -1 << 32, -top, -64, -17, -16, -8, -1, 0, 1, 7, 8, 15, 16, 17, 64,
	top - 1, top, top + 1, top + 16, 1 << 32, highest - 100, highest - 16, highest - 1, highest, highest + 1, highest + 16, 1 << 41, 1 << 62, math.MaxInt - highest, math.MaxInt - 16, math.MaxInt - 15, math.MaxInt - 1, math.MaxInt,
}

// content is what a stack says.
type content struct {
	args, env []string
	aux       []api.Pair
}

// same tells whether two stacks say the same.
func same(a, b content) bool {
	return slices.Equal(a.args, b.args) && slices.Equal(a.env, b.env) && slices.Equal(a.aux, b.aux)
}

// size is how many bytes a stack has, counted as the chapter tells them.
func (c content) size() int {
	n := 8
	for _, s := range c.args {
		n += 8 + len(s) + 1
	}
	n += 8
	for _, s := range c.env {
		n += 8 + len(s) + 1
	}
	n += 8
	for range c.aux {
		n += 8 + 8
	}
	n += 8 + 8
	for n%16 != 0 {
		n++
	}
	return n
}

// mayBe tells whether there may be such a stack.
func (c content) mayBe() bool {
	for _, s := range slices.Concat(c.args, c.env) {
		for i := range len(s) {
			if s[i] == 0 {
				return false
			}
		}
	}
	for _, p := range c.aux {
		if p.Tag <= 0 || p.Tag > highest || p.Value < 0 || p.Value > highest {
			return false
		}
	}
	return true
}

// laid is a stack up to an address, laid into memory from there downwards: its place, its bytes.
func (c content) laid(upTo int) (int, string) {
	memory, at := make([]byte, 2*most), 2*most
	address := func(at int) uint64 { return uint64(upTo - len(memory) + at) }
	put := func(l []string) []uint64 {
		places := make([]uint64, len(l))
		for i := len(l) - 1; i >= 0; i-- {
			at -= len(l[i]) + 1
			copy(memory[at:], l[i])
			places[i] = address(at)
		}
		return places
	}
	env := put(c.env)
	args := put(c.args)
	numbers := slices.Concat([]uint64{uint64(len(args))}, args, []uint64{0}, env, []uint64{0})
	for _, p := range c.aux {
		numbers = append(numbers, uint64(p.Tag), uint64(p.Value))
	}
	numbers = append(numbers, 0, 0)
	at -= 8 * len(numbers)
	for at%16 != 0 {
		at--
	}
	copy(memory[at:], row(numbers...))
	return int(address(at)), string(memory[at:])
}

// row is numbers of 8 bytes, one behind the other.
func row(l ...uint64) string {
	b := []byte{}
	for _, n := range l {
		b = binary.LittleEndian.AppendUint64(b, n)
	}
	return string(b)
}

// said is what a stack says as the chapter tells it; false, if it says nothing.
func said(view string, from, sp int) (content, bool) {
	if from < 0 || from > highest || sp < from || sp > highest || sp-from > len(view) {
		return content{}, false
	}
	numbers := []uint64{}
	for s := view[sp-from:]; len(s) >= 8; s = s[8:] {
		numbers = append(numbers, binary.LittleEndian.Uint64([]byte(s[:8])))
	}
	if len(numbers) == 0 {
		return content{}, false
	}
	count := numbers[0]
	places, numbers, ok := upToNone(numbers[1:])
	if !ok || uint64(len(places)) != count {
		return content{}, false
	}
	args, ok := textsAt(view, from, places)
	if !ok {
		return content{}, false
	}
	places, numbers, ok = upToNone(numbers)
	if !ok {
		return content{}, false
	}
	env, ok := textsAt(view, from, places)
	if !ok {
		return content{}, false
	}
	aux, ok := pairsIn(numbers)
	return content{args, env, aux}, ok
}

// upToNone cuts numbers at the first 0: those ahead of it, those behind; false, if there is none.
func upToNone(l []uint64) (ahead, behind []uint64, ok bool) {
	at := slices.Index(l, 0)
	if at < 0 {
		return nil, nil, false
	}
	return l[:at], l[at+1:], true
}

// textsAt is the texts at these places.
func textsAt(view string, from int, places []uint64) ([]string, bool) {
	if len(places) > mostRead {
		return nil, false
	}
	l := []string{}
	for _, place := range places {
		if place > highest || place < uint64(from) || place >= uint64(from+len(view)) {
			return nil, false
		}
		s, _, ended := strings.Cut(view[int(place)-from:], "\x00")
		if !ended || len(s) > mostText {
			return nil, false
		}
		l = append(l, s)
	}
	return l, true
}

// pairsIn is aux.
func pairsIn(l []uint64) ([]api.Pair, bool) {
	pairs := []api.Pair{}
	for i := 0; i+1 < len(l); i += 2 {
		switch {
		case l[i] == 0:
			return pairs, len(pairs) <= mostRead
		case l[i] > highest || l[i+1] > highest:
			return nil, false
		}
		pairs = append(pairs, api.Pair{Tag: int(l[i]), Value: int(l[i+1])})
	}
	return nil, false
}

// builds asks Build what the model tells, and Size; what is built it reads.
func builds(t *testing.T, upTo int, c content) {
	t.Helper()
	switch {
	case upTo < 0 || upTo > top || upTo%16 != 0 || !c.mayBe():
		refuses(t, upTo, c, isArg)
	case c.size() > most || c.size() > upTo:
		refuses(t, upTo, c, isSize)
	default:
		sp, bytes, err := stack.Build(upTo, c.args, c.env, c.aux)
		at, want := c.laid(upTo)
		if err != 0 || sp != at || bytes != want {
			t.Fatalf("Build(%d, %q, %q, %v): %d, %x, %d, want %d, %x, 0", upTo, c.args, c.env, c.aux, sp, bytes, err, at, want)
		}
		tells(t, bytes, sp, sp, c)
	}
	if got, want := stack.Size(c.args, c.env, c.aux), c.size(); got != want {
		t.Fatalf("Size(%.200q, %.200q, %.200v): %d, want %d", c.args, c.env, c.aux, got, want)
	}
}

// refuses asks that nothing is built.
func refuses(t *testing.T, upTo int, c content, want api.Errno) {
	t.Helper()
	if sp, bytes, err := stack.Build(upTo, c.args, c.env, c.aux); sp != 0 || bytes != "" || err != want {
		t.Fatalf("Build(%d, %.200q, %.200q, %.200v): %d, %x, %d, want nothing and %d", upTo, c.args, c.env, c.aux, sp, bytes, err, want)
	}
}

// tells asks what a stack says.
func tells(t *testing.T, view string, from, sp int, want content) {
	t.Helper()
	args, env, aux, ok := stack.Read(view, from, sp)
	if !ok || !same(content{args, env, aux}, want) {
		t.Fatalf("Read(%x, %d, %d): %q %q %v %v, want %q %q %v true", view[:min(len(view), 2000)], from, sp, args, env, aux, ok, want.args, want.env, want.aux)
	}
}

// none asks that a stack says nothing.
func none(t *testing.T, view string, from, sp int) {
	t.Helper()
	args, env, aux, ok := stack.Read(view, from, sp)
	if ok || len(args) != 0 || len(env) != 0 || len(aux) != 0 {
		t.Fatalf("Read(%x, %d, %d): %q %q %v %v, want nothing", view[:min(len(view), 2000)], from, sp, args, env, aux, ok)
	}
}

// alike asks Read what the model tells, and tells whether that is something.
func alike(t *testing.T, view string, from, sp int) bool {
	t.Helper()
	want, ok := said(view, from, sp)
	if ok {
		tells(t, view, from, sp, want)
	} else {
		none(t, view, from, sp)
	}
	return ok
}

// some are stacks of all kinds: without anything, with one thing of each, with several.
func some() []content {
	return []content{
		{},
		{args: []string{"a"}},
		{env: []string{"a"}},
		{aux: []api.Pair{{Tag: 9, Value: 100}}},
		{args: []string{""}, env: []string{"", ""}},
		{args: []string{"ls", "-l", "/"}, env: []string{"HOME=/", "A="}, aux: []api.Pair{{Tag: 9, Value: 16484}, {Tag: 3, Value: 2}}},
		{args: []string{"\xff\x01\x80", strings.Repeat("long", 30)}, aux: []api.Pair{{Tag: 1}, {Tag: highest, Value: highest}, {Tag: 1, Value: 7}}},
	}
}

// draws is a row of numbers that look drawn, the same each time.
type draws uint64

// upTo is the next number, from 0 to n - 1.
func (d *draws) upTo(n int) int {
	*d = *d*6364136223846793005 + 1442695040888963407
	return int(uint64(*d) >> 33 % uint64(n))
}

// texts are up to n drawn texts, most of them short.
func (d *draws) texts(n int) []string {
	l := []string{}
	for range d.upTo(n + 1) {
		b := make([]byte, d.upTo(1+d.upTo(40)))
		for i := range b {
			b[i] = byte(1 + d.upTo(255))
		}
		l = append(l, string(b))
	}
	return l
}

// content is a drawn one that may be.
func (d *draws) content() content {
	c := content{args: d.texts(8), env: d.texts(8)}
	for range d.upTo(8) {
		c.aux = append(c.aux, api.Pair{Tag: 1 + d.upTo(1<<30), Value: d.upTo(1<<30) << d.upTo(11)})
	}
	return c
}

func TestLimits(t *testing.T) {
	if api.Top != top || api.OK != 0 || api.ErrArg != isArg || api.ErrSize != isSize {
		t.Fatal("the numbers of api are other ones than the document's")
	}
}

// P17.1: Build

func TestBuildExamples(t *testing.T) {
	const none = "0000000000000000"
	for _, l := range []struct {
		upTo int
		c    content
		sp   int
		want []string
	}{
		{4096, content{args: []string{"a"}}, 4032, []string{"0100000000000000", "fe0f000000000000", none, none, none, none, none, "000000000000", "6100"}},
		{48, content{}, 0, []string{none, none, none, none, none, none}},
		{top, content{}, top - 48, []string{none, none, none, none, none, none}},
		{4096, content{args: []string{"ab", "c"}, env: []string{"", "d"}, aux: []api.Pair{{Tag: 9, Value: 258}, {Tag: 3}}}, 3984, []string{
			"0200000000000000", "f80f000000000000", "fb0f000000000000", none, "fd0f000000000000", "fe0f000000000000", none,
			"0900000000000000", "0201000000000000", "0300000000000000", none, none, none,
			"616200", "6300", "00", "6400"}},
		{4096, content{aux: []api.Pair{{Tag: highest, Value: highest}}}, 4032, []string{none, none, none, "0000000000010000", "0000000000010000", none, none, none}},
		{64, content{args: []string{"seven.."}}, 0, []string{"0100000000000000", "3800000000000000", none, none, none, none, none, "736576656e2e2e00"}},
		{64, content{env: []string{"fifteen bytes.."}}, 0, []string{none, none, "3000000000000000", none, none, none, "6669667465656e2062797465732e2e00"}},
	} {
		sp, bytes, err := stack.Build(l.upTo, l.c.args, l.c.env, l.c.aux)
		if got, want := hex.EncodeToString([]byte(bytes)), strings.Join(l.want, ""); err != 0 || sp != l.sp || got != want {
			t.Errorf("Build(%d, %q, %q, %v): %d, %s, %d, want %d, %s, 0", l.upTo, l.c.args, l.c.env, l.c.aux, sp, got, err, l.sp, want)
		}
		if got := stack.Size(l.c.args, l.c.env, l.c.aux); got != l.upTo-l.sp {
			t.Errorf("Size(%q, %q, %v): %d, want %d", l.c.args, l.c.env, l.c.aux, got, l.upTo-l.sp)
		}
	}
}

func TestBuildTops(t *testing.T) {
	for _, c := range some() {
		for upTo := -40; upTo < 1200; upTo++ {
			builds(t, upTo, c)
		}
		for upTo := top - 40; upTo < top+40; upTo++ {
			builds(t, upTo, c)
		}
		for _, upTo := range edges {
			builds(t, upTo, c)
			builds(t, upTo, content{args: []string{strings.Repeat("x", most)}})
		}
	}
}

// The numbers and the texts end everywhere, so that there are 0 to 15 bytes between them.
func TestBuildLengths(t *testing.T) {
	for n := range most + 100 {
		s := strings.Repeat("x", n)
		for _, upTo := range []int{0, 48, 64, 80, 512, 1008, 1024, 1040, 4096, top} {
			builds(t, upTo, content{args: []string{s}})
			builds(t, upTo, content{env: []string{s}})
			builds(t, upTo, content{args: []string{"a", s}, env: []string{"b"}, aux: []api.Pair{{Tag: 3, Value: 1}}})
		}
	}
}

func TestBuildCounts(t *testing.T) {
	for args := range 130 {
		for env := range 130 {
			builds(t, 4096, content{args: make([]string, args), env: make([]string, env)})
		}
		for aux := range 70 {
			pairs := slices.Repeat([]api.Pair{{Tag: 5, Value: aux}}, aux)
			builds(t, 4096, content{args: make([]string, args), aux: pairs})
			builds(t, 1024, content{env: make([]string, args), aux: pairs})
		}
	}
}

func TestBuildMost(t *testing.T) {
	args := []string{strings.Repeat("x", most-49)}
	if sp, bytes, err := stack.Build(top, args, nil, nil); sp != top-most || len(bytes) != most || err != 0 {
		t.Fatalf("Build of 1024 bytes: %d, %x, %d", sp, bytes, err)
	}
	builds(t, most, content{args: args})
	refuses(t, most-16, content{args: args}, isSize)
	args[0] += "x"
	refuses(t, top, content{args: args}, isSize)
	refuses(t, most, content{args: args}, isSize)
	refuses(t, 32, content{}, isSize)
	refuses(t, 0, content{}, isSize)
}

func TestBuildTextsWrong(t *testing.T) {
	for _, s := range []string{"", "a", "abcdefghijklmnop"} {
		for at := range len(s) + 1 {
			wrong := s[:at] + "\x00" + s[at:]
			for place := range 4 {
				l := slices.Insert([]string{"a", "", "b"}, place, wrong)
				refuses(t, 4096, content{args: l}, isArg)
				refuses(t, 4096, content{env: l}, isArg)
				refuses(t, 4096, content{args: []string{"c"}, env: l, aux: []api.Pair{{Tag: 3, Value: 1}}}, isArg)
				builds(t, 4096, content{args: l, env: l})
			}
		}
	}
	for b := 1; b < 256; b++ {
		builds(t, 4096, content{args: []string{string([]byte{byte(b)})}, env: []string{string([]byte{byte(b), 'x', byte(b)})}})
	}
}

func TestBuildAuxWrong(t *testing.T) {
	for _, tag := range edges {
		for _, value := range edges {
			p := api.Pair{Tag: tag, Value: value}
			builds(t, 4096, content{aux: []api.Pair{p}})
			builds(t, 4096, content{aux: []api.Pair{{Tag: 9, Value: 5}, p, {Tag: 3}}})
		}
	}
	for _, p := range []api.Pair{{Tag: 0, Value: 0}, {Tag: 0, Value: 5}, {Tag: -1, Value: 5}, {Tag: highest + 1, Value: 5}, {Tag: 5, Value: -1}, {Tag: 5, Value: highest + 1}} {
		refuses(t, 4096, content{aux: []api.Pair{p}}, isArg)
	}
}

// What must be so of what is handed in is asked ahead of how much it is.
func TestBuildArgAheadOfSize(t *testing.T) {
	long := strings.Repeat("x", 2*most)
	for _, c := range []content{
		{args: []string{long, "\x00"}},
		{args: []string{long}, env: []string{"\x00"}},
		{args: []string{long}, aux: []api.Pair{{}}},
		{args: []string{long + "\x00"}},
		{env: []string{long + "\x00"}},
	} {
		refuses(t, 4096, c, isArg)
		refuses(t, 0, c, isArg)
	}
	for _, upTo := range []int{-16, -1, 1, 8, top + 1, top + 16} {
		refuses(t, upTo, content{args: []string{long}}, isArg)
		refuses(t, upTo, content{}, isArg)
	}
}

func TestBuildLong(t *testing.T) {
	long := strings.Repeat("x", 1<<24)
	refuses(t, top, content{args: []string{long}}, isSize)
	refuses(t, top, content{env: []string{long + "\x00"}}, isArg)
	many := make([]string, 1<<20)
	refuses(t, top, content{args: many, env: many}, isSize)
	many[1<<20-1] = "\x00"
	refuses(t, top, content{args: many}, isArg)
	pairs := slices.Repeat([]api.Pair{{Tag: 1}}, 1<<20)
	refuses(t, top, content{aux: pairs}, isSize)
	pairs[1<<20-1].Tag = 0
	refuses(t, top, content{aux: pairs}, isArg)
}

// P17.1: Size. (What is built is asked for its size by builds, too.)

func TestSize(t *testing.T) {
	for _, l := range []struct {
		c    content
		want int
	}{
		{content{}, 48},
		{content{args: []string{""}}, 64},
		{content{args: []string{"a"}}, 64},
		{content{args: []string{"fifteen bytes.."}}, 64},
		{content{args: []string{"sixteen bytes..."}}, 80},
		{content{env: []string{"fifteen bytes.."}}, 64},
		{content{env: []string{"sixteen bytes..."}}, 80},
		{content{args: []string{"a\x00b", "\x00\x00\x00"}}, 64},
		{content{args: []string{"\x00seven.."}, env: []string{"\x00\x00\x00\x00\x00\x00\x00"}}, 80},
		{content{aux: []api.Pair{{Tag: 9, Value: 1}}}, 64},
		{content{aux: []api.Pair{{}, {Tag: -1, Value: -1}}}, 80},
		{content{args: []string{strings.Repeat("x", 100000)}}, 100064},
		{content{args: make([]string, 100000), env: make([]string, 100000), aux: make([]api.Pair, 100000)}, 3400048},
	} {
		if got := stack.Size(l.c.args, l.c.env, l.c.aux); got != l.want {
			t.Errorf("Size(%.200q, %.200q, %.200v): %d, want %d", l.c.args, l.c.env, l.c.aux, got, l.want)
		}
	}
}

// P17.2: Read

func TestReadExamples(t *testing.T) {
	// From 4096 on: two args, one of env, two of aux, and texts from 4192 on.
	view := row(2, 4192, 4195, 0, 4196, 0, 9, 258, 3, 0, 0, 0) + "ab\x00\x00de\x00"
	want := content{args: []string{"ab", ""}, env: []string{"de"}, aux: []api.Pair{{Tag: 9, Value: 258}, {Tag: 3}}}
	tells(t, view, 4096, 4096, want)
	tells(t, "ahead"+view+"behind", 4091, 4096, want)
	none(t, view, 4096, 4104)
	// One address lower the same places are one byte further in the view.
	tells(t, view, 4095, 4095, content{args: []string{"b", "de"}, env: []string{"e"}, aux: want.aux})
	tells(t, row(0, 0, 0, 0, 0), 0, 0, content{})
	tells(t, row(0, 0, 0, 5, 0, 0, 0), 7, 7, content{aux: []api.Pair{{Tag: 5}}})
	none(t, "", 0, 0)
	none(t, "\x00", 0, 0)
}

// What is read need not be as Build would have it: texts may be one, parts of each other, or numbers, and a stack may begin anywhere.
func TestReadOtherStacks(t *testing.T) {
	view := row(3, 80, 82, 80, 0, 83, 81, 0, 0, 0) + "abc\x00"
	tells(t, view, 0, 0, content{args: []string{"abc", "c", "abc"}, env: []string{"", "bc"}})
	view = row(1, 8, 0, 16, 0, 0, 0)
	tells(t, view, 0, 0, content{args: []string{"\x08"}, env: []string{""}})
	view = "text\x00" + row(1, 100, 0, 104, 0, 0, 0)
	for sp := range 40 {
		alike(t, view, 100, 100+sp)
	}
	tells(t, view, 100, 105, content{args: []string{"text"}, env: []string{""}})
	tells(t, row(0, 0, 0, 0, 0)+"no zeros behind", 64, 64, content{})
}

// A view may have more bytes ahead and behind, and be anywhere.
func TestReadWithin(t *testing.T) {
	for _, c := range some() {
		for _, upTo := range []int{1024, 4096, top} {
			sp, bytes, _ := stack.Build(upTo, c.args, c.env, c.aux)
			for ahead := range 70 {
				from := sp - ahead
				tells(t, strings.Repeat("\xff", ahead)+bytes, from, sp, c)
				tells(t, strings.Repeat("\x00", ahead)+bytes+"behind", from, sp, c)
			}
			for off := -40; off < 40; off++ {
				alike(t, bytes, sp, sp+off)
				alike(t, bytes, sp+off, sp)
				alike(t, bytes, sp+off, sp+off)
				alike(t, strings.Repeat("\x00", 40)+bytes, sp-40, sp+off)
			}
		}
	}
}

func TestReadCut(t *testing.T) {
	for _, c := range some() {
		sp, bytes, _ := stack.Build(4096, c.args, c.env, c.aux)
		for n := range len(bytes) {
			ok := alike(t, bytes[:n], sp, sp)
			if len(c.args)+len(c.env) > 0 && ok {
				t.Fatalf("Read of %d of %d bytes: true, though the last text has no end", n, len(bytes))
			}
			alike(t, bytes[n:], sp+n, sp)
			alike(t, bytes[n:], sp+n, sp+n)
			alike(t, bytes[n:], sp, sp)
			alike(t, bytes[:n]+"\x00"+bytes[n:], sp, sp)
		}
	}
}

func TestReadEachByte(t *testing.T) {
	for _, c := range some() {
		sp, bytes, _ := stack.Build(4096, c.args, c.env, c.aux)
		for i := range len(bytes) {
			for b := range 256 {
				alike(t, bytes[:i]+string([]byte{byte(b)})+bytes[i+1:], sp, sp)
			}
		}
	}
}

// Each number of a stack is each of those at which the rules change.
func TestReadEachNumber(t *testing.T) {
	numbers := []uint64{}
	for _, n := range edges {
		numbers = append(numbers, uint64(n))
	}
	for n := range uint64(150) {
		numbers = append(numbers, 4096+n, n)
	}
	for i := range 12 {
		for _, n := range numbers {
			l := []uint64{2, 4192, 4195, 0, 4196, 0, 9, 258, 3, 0, 0, 0}
			l[i] = n
			alike(t, row(l...)+"ab\x00\x00de\x00", 4096, 4096)
		}
	}
}

func TestReadWhere(t *testing.T) {
	views := []string{"", "\x00", row(0, 0, 0, 0), row(0, 0, 0, 0, 0), row(0, 0, 0, 0, 0, 0, 0, 0), strings.Repeat("\x00", 1000)}
	for _, view := range views {
		for _, from := range edges {
			for _, sp := range edges {
				alike(t, view, from, sp)
			}
		}
	}
	tells(t, row(0, 0, 0, 0, 0), highest, highest, content{})
	tells(t, "x"+row(0, 0, 0, 0, 0), highest-1, highest, content{})
	none(t, "x"+row(0, 0, 0, 0, 0), highest, highest+1)
	none(t, row(0, 0, 0, 0, 0), highest+1, highest+1)
	none(t, "x"+row(0, 0, 0, 0, 0), -1, 0)
	none(t, row(0, 0, 0, 0, 0), -1, -1)
	none(t, row(0, 0, 0, 0, 0), 8, 0)
	none(t, row(0, 0, 0, 0, 0), 0, 8)
}

func TestReadPlaces(t *testing.T) {
	// From 100 on: an arg's place, and behind the numbers a text from 148 on.
	at := func(place uint64) string { return row(1, place, 0, 0, 0, 0) + "abc\x00" }
	tells(t, at(148), 100, 100, content{args: []string{"abc"}})
	tells(t, at(151), 100, 100, content{args: []string{""}})
	tells(t, at(100), 100, 100, content{args: []string{"\x01"}})
	for _, place := range []uint64{1, 99, 152, 153, 1 << 20, highest, highest + 1, highest + 148, 1 << 41, 1<<63 + 148, 1 << 63, math.MaxUint64, math.MaxUint64 - 99} {
		none(t, at(place), 100, 100)
	}
	none(t, at(148)[:51], 100, 100)
	// The view goes on above the greatest place.
	far := func(place uint64) string { return row(1, place, 0, 0, 0, 0) + "abc\x00def\x00" }
	tells(t, far(highest), highest-48, highest-48, content{args: []string{"abc"}})
	none(t, far(highest+1), highest-48, highest-48)
	none(t, far(highest+4), highest-48, highest-48)
	tells(t, far(highest-1), highest-49, highest-49, content{args: []string{"abc"}})
	env := func(place uint64) string { return row(0, 0, place, 0, 0, 0) + "abc\x00def\x00" }
	tells(t, env(highest), highest-48, highest-48, content{env: []string{"abc"}})
	none(t, env(highest+1), highest-48, highest-48)
	// At address 0 there may be bytes, but a place of 0 ends its row.
	none(t, row(1, 0, 0, 0, 0, 0), 0, 0)
	tells(t, row(1, 1, 0, 0, 0, 0), 0, 0, content{args: []string{""}})
}

func TestReadFirstNumber(t *testing.T) {
	for count := range 6 {
		for n := range 6 {
			places := make([]uint64, n)
			for i := range places {
				places[i] = 100
			}
			view := row(slices.Concat([]uint64{uint64(count)}, places, []uint64{0, 0, 0, 0})...)
			if got := alike(t, view, 100, 100); got != (count == n) {
				t.Fatalf("Read of %d args of which the first number says that they are %d: %v", n, count, got)
			}
		}
	}
	for _, n := range []uint64{2, 3, 1 << 8, 1<<8 + 1, 1 << 32, 1<<32 + 1, highest + 1, 1 << 63, 1<<63 + 1, math.MaxUint64} {
		none(t, row(n, 100, 0, 0, 0, 0, 0, 0), 100, 100)
		none(t, row(n, 0, 0, 0, 0, 0, 0, 0), 100, 100)
	}
}

func TestReadAux(t *testing.T) {
	aux := func(tag, value uint64) string { return row(0, 0, 0, tag, value, 0, 0) }
	tells(t, aux(1, 0), 0, 0, content{aux: []api.Pair{{Tag: 1}}})
	tells(t, aux(highest, highest), 0, 0, content{aux: []api.Pair{{Tag: highest, Value: highest}}})
	for _, n := range []uint64{highest + 1, 1 << 41, 1 << 62, 1<<63 - 1, 1 << 63, 1<<63 + 1, math.MaxUint64 - 1, math.MaxUint64} {
		none(t, aux(n, 5), 0, 0)
		none(t, aux(5, n), 0, 0)
		// Behind a Tag of 0 any number may stand.
		tells(t, row(0, 0, 0, 0, n), 0, 0, content{})
		tells(t, row(0, 0, 0, 5, 6, 0, n, 7, 8), 0, 0, content{aux: []api.Pair{{Tag: 5, Value: 6}}})
	}
	tells(t, row(0, 0, 0, 5, 0, 5, 7, 0, 0), 0, 0, content{aux: []api.Pair{{Tag: 5}, {Tag: 5, Value: 7}}})
	// The Value behind a Tag of 0 must be there.
	whole := row(0, 0, 0, 0, 9)
	for n := range len(whole) {
		none(t, whole[:n], 0, 0)
	}
	// Without a Tag of 0 they have no end.
	none(t, row(0, 0, 0, 5, 6), 0, 0)
	none(t, row(0, 0, 0, 5, 6, 7), 0, 0)
	none(t, row(0, 0, 0, 5, 0), 0, 0)
}

func TestReadMost(t *testing.T) {
	for _, n := range []int{127, 128, 129, 130, 200} {
		places := slices.Repeat([]uint64{100}, n)
		pairs := slices.Repeat([]uint64{5, 6}, n)
		texts := slices.Repeat([]string{"\x07"}, n)
		args := slices.Concat([]uint64{uint64(n)}, places, []uint64{0, 0, 0, 0})
		env := slices.Concat([]uint64{7, 104, 104, 104, 104, 104, 104, 104, 0}, places, []uint64{0, 0, 0})
		aux := slices.Concat([]uint64{0, 0, 0}, pairs, []uint64{0, 0})
		all := slices.Concat([]uint64{uint64(n)}, places, []uint64{0}, places, []uint64{0}, pairs, []uint64{0, 0})
		for i, l := range [][]uint64{args, env, aux, all} {
			if got := alike(t, row(l...), 100, 100); got != (n <= mostRead) {
				t.Fatalf("Read of %d of them, row %d: %v", n, i, got)
			}
		}
		if n <= mostRead {
			tells(t, row(env...), 100, 100, content{args: make([]string, 7), env: texts})
		}
	}
	none(t, row(slices.Repeat([]uint64{100}, 1<<20)...), 100, 100)
	none(t, row(slices.Concat([]uint64{0, 0, 0}, slices.Repeat([]uint64{1}, 1<<20))...), 100, 100)
}

func TestReadLongTexts(t *testing.T) {
	for _, n := range []int{0, 1, 1022, 1023, 1024, 1025, 1026, 5000, 1 << 24} {
		s := strings.Repeat("x", n)
		for _, view := range []string{row(1, 100+48, 0, 0, 0, 0) + s + "\x00", row(0, 0, 100+48, 0, 0, 0) + s + "\x00y\x00"} {
			if got := alike(t, view, 100, 100); got != (n <= mostText) {
				t.Fatalf("Read of a text of %d bytes: %v", n, got)
			}
		}
		none(t, row(1, 100+48, 0, 0, 0, 0)+s, 100, 100)
	}
}

func TestReadDrawnViews(t *testing.T) {
	d, read := draws(17), 0
	for range 30000 {
		numbers := []uint64{}
		for range 5 + d.upTo(12) {
			n := uint64(0)
			switch d.upTo(5) {
			case 0:
				n = uint64(d.upTo(4))
			case 1:
				n = uint64(190 + d.upTo(140))
			case 2:
				n = uint64(edges[d.upTo(len(edges))])
			}
			numbers = append(numbers, n)
		}
		view := row(numbers...) + strings.Repeat("x", d.upTo(10)) + strings.Repeat("\x00", d.upTo(3))
		if alike(t, view, 200, 200+8*d.upTo(3)) {
			read++
		}
	}
	if read < 1000 || read > 29000 {
		t.Fatalf("of 30000 drawn views %d say something: too few, or too many, to ask for both", read)
	}
}

// P17.3: what was built is read. (builds asks it of all stacks, too.)

func TestAllSmallStacks(t *testing.T) {
	lists := [][]string{nil, {}}
	words := []string{"", "a", "bc", "\xff1234567"}
	for _, a := range words {
		lists = append(lists, []string{a})
		for _, b := range words {
			lists = append(lists, []string{a, b}, []string{b, "", a})
		}
	}
	auxes := [][]api.Pair{nil, {{Tag: 1}}, {{Tag: 9, Value: highest}, {Tag: highest, Value: 64}}}
	for _, args := range lists {
		for _, env := range lists {
			for _, aux := range auxes {
				c := content{args, env, aux}
				builds(t, c.size(), c)
				builds(t, c.size()-16, c)
				builds(t, 4096, c)
				builds(t, top, c)
			}
		}
	}
}

func TestDrawnStacks(t *testing.T) {
	d := draws(3)
	for range 20000 {
		c := d.content()
		builds(t, 16*d.upTo(top/16+1), c)
		builds(t, 16*d.upTo(100), c)
		builds(t, d.upTo(top), c)
	}
}

// A stack in the middle of all memory is read, too.
func TestReadInMemory(t *testing.T) {
	d := draws(5)
	for range 200 {
		c := d.content()
		upTo := 16 * d.upTo(top/16+1)
		sp, bytes, err := stack.Build(upTo, c.args, c.env, c.aux)
		if err != 0 {
			continue
		}
		memory := make([]byte, top)
		for i := range memory {
			memory[i] = byte(i%255 + 1)
		}
		copy(memory[sp:], bytes)
		tells(t, string(memory), 0, sp, c)
		tells(t, string(memory[sp/2:]), sp/2, sp, c)
	}
}

// R1: nil is an empty list.
func TestNothing(t *testing.T) {
	a, x, e := stack.Build(4096, nil, nil, nil)
	b, y, f := stack.Build(4096, []string{}, []string{}, []api.Pair{})
	if a != 4048 || a != b || x != strings.Repeat("\x00", 48) || x != y || e != 0 || f != 0 {
		t.Fatalf("Build of nothing: %d %x %d, and %d %x %d", a, x, e, b, y, f)
	}
	if a, b := stack.Size(nil, nil, nil), stack.Size([]string{}, []string{}, []api.Pair{}); a != 48 || b != 48 {
		t.Fatalf("Size of nothing: %d, %d", a, b)
	}
}

// R3: what is handed in stays as it is, and what is told is its owner's.
func TestOwners(t *testing.T) {
	for _, c := range some() {
		was := content{slices.Clone(c.args), slices.Clone(c.env), slices.Clone(c.aux)}
		sp, bytes, _ := stack.Build(4096, c.args, c.env, c.aux)
		stack.Size(c.args, c.env, c.aux)
		if !same(c, was) {
			t.Fatalf("Build has changed what was handed in: %q %q %v, it was %q %q %v", c.args, c.env, c.aux, was.args, was.env, was.aux)
		}
		args, env, aux, _ := stack.Read(bytes, sp, sp)
		for i := range args {
			args[i] = "changed"
		}
		for i := range env {
			env[i] = "changed"
		}
		for i := range aux {
			aux[i] = api.Pair{Tag: 1 << 50}
		}
		_, _, _ = append(args, "more"), append(env, "more"), append(aux, api.Pair{})
		tells(t, bytes, sp, sp, was)
		for i := range c.args {
			c.args[i] = "other"
		}
		tells(t, bytes, sp, sp, was)
	}
}

// R4: the same calls have the same answers, whatever was asked between them.
func TestSameAnswers(t *testing.T) {
	for _, c := range some() {
		sp, bytes, _ := stack.Build(4096, c.args, c.env, c.aux)
		for _, other := range some() {
			builds(t, 2048, other)
			none(t, bytes[:8], sp, sp)
			builds(t, 4096, c)
			tells(t, bytes, sp, sp, c)
		}
	}
}
