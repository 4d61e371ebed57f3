package octet_test

import (
	"math"
	"math/big"
	"strings"
	"testing"

	"flyleaf/octet"
)

// edges are numbers of int at which sums and differences go wrong first.
var edges = []int{
	math.MinInt, math.MinInt + 1, -1 << 62, math.MinInt32, -65, -9, -8, -2, -1,
	0, 1, 2, 3, 4, 5, 7, 8, 9, 63, 64, 65, math.MaxInt32, math.MaxInt32 + 1,
	1<<62 - 2, 1<<62 - 1, 1 << 62, 1<<62 + 1, 1<<62 + 2, math.MaxInt - 1, math.MaxInt,
}

// numbers are words of which each byte tells its place, and the ends of uint64.
var numbers = []uint64{0, 1, 0x7f, 0x80, 0xff, 0x100, 258, 0x0102030405060708, 0xf1f2f3f4f5f6f7f8, 1 << 63, math.MaxUint64}

var texts = []string{"", "\x00", "a", "ab\x00c", "\x00\x00\x00", "hello", "\xff\xfe\x80\x7f\x01\x00\xff\x00\x01", "0123456789abcdef", strings.Repeat("\xa5", 70)}

// within is the model of Within, with numbers that have no end.
func within(at, n, all int) bool {
	sum := new(big.Int).Add(big.NewInt(int64(at)), big.NewInt(int64(n)))
	return at >= 0 && n >= 0 && sum.Cmp(big.NewInt(int64(all))) <= 0
}

// number is the model of a number in bytes: from the greatest byte down.
func number(s string) uint64 {
	n := uint64(0)
	for i := len(s) - 1; i >= 0; i-- {
		n = n*256 + uint64(s[i])
	}
	return n
}

// places are all places in and about a text, and the edges.
func places(s string) []int {
	l := append([]int(nil), edges...)
	for i := -2; i <= len(s)+2; i++ {
		l = append(l, i)
	}
	return l
}

func TestPutExamples(t *testing.T) {
	for _, c := range []struct {
		n     uint64
		width int
		want  string
	}{
		{258, 2, "\x02\x01"},
		{258, 1, "\x02"},
		{258, 3, "\x02\x01\x00"},
		{0, 4, "\x00\x00\x00\x00"},
		{0x0102030405060708, 8, "\x08\x07\x06\x05\x04\x03\x02\x01"},
		{0x0102030405060708, 7, "\x08\x07\x06\x05\x04\x03\x02"},
		{0x0102030405060708, 9, "\x08\x07\x06\x05\x04\x03\x02\x01"},
		{0x0102030405060708, math.MaxInt, "\x08\x07\x06\x05\x04\x03\x02\x01"},
		{math.MaxUint64, 8, "\xff\xff\xff\xff\xff\xff\xff\xff"},
		{math.MaxUint64, 0, ""},
		{math.MaxUint64, -1, ""},
		{math.MaxUint64, math.MinInt, ""},
	} {
		if got := octet.Put(c.n, c.width); got != c.want {
			t.Errorf("Put(%x, %d): %x, want %x", c.n, c.width, got, c.want)
		}
	}
}

func TestPutAtAllWidths(t *testing.T) {
	for _, n := range numbers {
		for _, width := range append([]int{6}, edges...) {
			got := octet.Put(n, width)
			wide := min(max(width, 0), 8)
			if len(got) != wide {
				t.Fatalf("Put(%x, %d) has %d bytes, want %d", n, width, len(got), wide)
			}
			want := n
			if wide < 8 {
				want = n % (1 << (8 * wide))
			}
			if number(got) != want {
				t.Errorf("Put(%x, %d): %x", n, width, got)
			}
		}
	}
}

func TestGetExamples(t *testing.T) {
	for _, c := range []struct {
		s         string
		at, width int
		n         uint64
		ok        bool
	}{
		{"\x02\x01", 0, 2, 258, true},
		{"\x02\x01\x00", 0, 3, 258, true},
		{"\x02\x01\x00", 1, 2, 1, true},
		{"\x02\x01", 1, 2, 0, false},
		{"\x02\x01", 2, 1, 0, false},
		{"\x02\x01", 0, 0, 0, false},
		{"\x02\x01", 2, 0, 0, false},
		{"\x02\x01", 0, -1, 0, false},
		{"\x02\x01", -1, 1, 0, false},
		{"\x02\x01", -1, 2, 0, false},
		{"123456789", 0, 8, 0x3837363534333231, true},
		{"123456789", 1, 8, 0x3938373635343332, true},
		{"123456789", 2, 8, 0, false},
		{"123456789", 0, 9, 0, false},
		{"\xff\xff\xff\xff\xff\xff\xff\xff", 0, 8, math.MaxUint64, true},
		{"", 0, 1, 0, false},
		{"", 0, 0, 0, false},
	} {
		if n, ok := octet.Get(c.s, c.at, c.width); n != c.n || ok != c.ok {
			t.Errorf("Get(%q, %d, %d): %x %v, want %x %v", c.s, c.at, c.width, n, ok, c.n, c.ok)
		}
	}
}

func TestGetAtAllPlaces(t *testing.T) {
	for _, s := range texts {
		for _, at := range places(s) {
			for _, width := range append([]int{6}, edges...) {
				want, ok := uint64(0), width >= 1 && width <= 8 && within(at, width, len(s))
				if ok {
					want = number(s[at : at+width])
				}
				if n, is := octet.Get(s, at, width); n != want || is != ok {
					t.Errorf("Get(%q, %d, %d): %x %v, want %x %v", s, at, width, n, is, want, ok)
				}
			}
		}
	}
}

func TestSetExamples(t *testing.T) {
	for _, c := range []struct {
		s         string
		at, width int
		n         uint64
		want      string
		ok        bool
	}{
		{"aaaa", 1, 2, 0x6263, "acba", true},
		{"aaaa", 0, 4, 0x64636261, "abcd", true},
		{"aaaa", 3, 1, 0x162, "aaab", true},
		{"aaaa", 3, 2, 0x6262, "aaaa", false},
		{"aaaa", 4, 1, 0x62, "aaaa", false},
		{"aaaa", 1, 0, 0x62, "aaaa", false},
		{"aaaa", 1, -1, 0x62, "aaaa", false},
		{"aaaa", -1, 1, 0x62, "aaaa", false},
		{"123456789", 0, 9, 0, "123456789", false},
		{"123456789", 1, 8, 0, "1\x00\x00\x00\x00\x00\x00\x00\x00", true},
		{"", 0, 1, 1, "", false},
	} {
		if got, ok := octet.Set(c.s, c.at, c.width, c.n); got != c.want || ok != c.ok {
			t.Errorf("Set(%q, %d, %d, %x): %q %v, want %q %v", c.s, c.at, c.width, c.n, got, ok, c.want, c.ok)
		}
	}
}

func TestSetAtAllPlaces(t *testing.T) {
	const n = 0xf1f2f3f4f5f6f7f8
	for _, s := range texts {
		for _, at := range places(s) {
			for _, width := range append([]int{6}, edges...) {
				want, ok := s, width >= 1 && width <= 8 && within(at, width, len(s))
				if ok {
					want = s[:at] + octet.Put(n, width) + s[at+width:]
				}
				if got, is := octet.Set(s, at, width, n); got != want || is != ok {
					t.Errorf("Set(%q, %d, %d): %q %v, want %q %v", s, at, width, got, is, want, ok)
				}
			}
		}
	}
}

func TestWithinExamples(t *testing.T) {
	for _, c := range []struct {
		at, n, all int
		want       bool
	}{
		{0, 0, 0, true},
		{2, 2, 4, true},
		{2, 3, 4, false},
		{4, 0, 4, true},
		{5, 0, 4, false},
		{4, 1, 4, false},
		{-1, 2, 4, false},
		{2, -1, 4, false},
		{0, 0, -1, false},
		{0, math.MaxInt, math.MaxInt, true},
		{1, math.MaxInt, math.MaxInt, false},
		{math.MaxInt, 0, math.MaxInt, true},
		{math.MaxInt, 1, math.MaxInt, false},
		{math.MaxInt, math.MaxInt, math.MaxInt, false},
		{math.MaxInt, math.MaxInt, 4, false},
		{1 << 62, 1 << 62, math.MaxInt, false},
		{math.MinInt, math.MinInt, 0, false},
		{math.MinInt, math.MaxInt, 0, false},
		{0, 0, math.MinInt, false},
		{1, 1, math.MinInt, false},
	} {
		if got := octet.Within(c.at, c.n, c.all); got != c.want {
			t.Errorf("Within(%d, %d, %d): %v", c.at, c.n, c.all, got)
		}
	}
}

func TestWithinAtAllEdges(t *testing.T) {
	for _, at := range edges {
		for _, n := range edges {
			for _, all := range edges {
				if got, want := octet.Within(at, n, all), within(at, n, all); got != want {
					t.Errorf("Within(%d, %d, %d): %v, want %v", at, n, all, got, want)
				}
			}
		}
	}
}

func TestPartExamples(t *testing.T) {
	for _, c := range []struct {
		s     string
		at, n int
		want  string
		ok    bool
	}{
		{"hello", 1, 3, "ell", true},
		{"hello", 0, 5, "hello", true},
		{"hello", 2, 3, "llo", true},
		{"hello", 2, 4, "", false},
		{"hello", 2, 0, "", true},
		{"hello", 5, 0, "", true},
		{"hello", 6, 0, "", false},
		{"hello", -1, 2, "", false},
		{"hello", 1, -1, "", false},
		{"a\x00b", 0, 3, "a\x00b", true},
		{"", 0, 0, "", true},
		{"", 0, 1, "", false},
	} {
		if got, ok := octet.Part(c.s, c.at, c.n); got != c.want || ok != c.ok {
			t.Errorf("Part(%q, %d, %d): %q %v, want %q %v", c.s, c.at, c.n, got, ok, c.want, c.ok)
		}
	}
}

func TestPartAtAllPlaces(t *testing.T) {
	for _, s := range texts {
		for _, at := range places(s) {
			for _, n := range places(s) {
				want, ok := "", within(at, n, len(s))
				if ok {
					want = s[at : at+n]
				}
				if got, is := octet.Part(s, at, n); got != want || is != ok {
					t.Errorf("Part(%q, %d, %d): %q %v, want %q %v", s, at, n, got, is, want, ok)
				}
			}
		}
	}
}

func TestTextExamples(t *testing.T) {
	for _, c := range []struct {
		s        string
		at, most int
		want     string
		ok       bool
	}{
		{"ab\x00c", 0, 5, "ab", true},
		{"ab\x00c", 0, 2, "ab", true},
		{"ab\x00c", 0, 1, "", false},
		{"ab\x00c", 1, 1, "b", true},
		{"ab\x00c", 2, 0, "", true},
		{"ab\x00c", 1, 0, "", false},
		{"ab\x00c", 2, -1, "", false},
		{"ab\x00c", 3, 5, "", false},
		{"ab\x00c", 4, 5, "", false},
		{"ab\x00c", 5, 5, "", false},
		{"ab\x00c", -1, 5, "", false},
		{"ab\x00c\x00", 3, math.MaxInt, "c", true},
		{"ab\x00c\x00", 0, math.MaxInt, "ab", true},
		{"ab\x00", math.MaxInt, math.MaxInt, "", false},
		{"ab\x00", math.MinInt, math.MinInt, "", false},
		{"ab", 0, math.MaxInt, "", false},
		{"ab", 0, 2, "", false},
		{"", 0, 0, "", false},
	} {
		if got, ok := octet.Text(c.s, c.at, c.most); got != c.want || ok != c.ok {
			t.Errorf("Text(%q, %d, %d): %q %v, want %q %v", c.s, c.at, c.most, got, ok, c.want, c.ok)
		}
	}
}

func TestTextAtAllPlaces(t *testing.T) {
	for _, s := range texts {
		for _, at := range places(s) {
			for _, most := range places(s) {
				want, ok := "", false
				if at >= 0 && at <= len(s) {
					if n := strings.IndexByte(s[at:], 0); n >= 0 && n <= most {
						want, ok = s[at:at+n], true
					}
				}
				if got, is := octet.Text(s, at, most); got != want || is != ok {
					t.Errorf("Text(%q, %d, %d): %q %v, want %q %v", s, at, most, got, is, want, ok)
				}
			}
		}
	}
}

func TestFillExamples(t *testing.T) {
	for _, c := range []struct {
		s    string
		n    int
		want string
	}{
		{"ab", 3, "ab\x00"},
		{"ab", 2, "ab"},
		{"ab", 1, "a"},
		{"ab", 0, ""},
		{"ab", -1, ""},
		{"ab", math.MinInt, ""},
		{"", 3, "\x00\x00\x00"},
		{"", 0, ""},
		{"a\x00b", 5, "a\x00b\x00\x00"},
	} {
		if got := octet.Fill(c.s, c.n); got != c.want {
			t.Errorf("Fill(%q, %d): %q, want %q", c.s, c.n, got, c.want)
		}
	}
	const long = 1 << 20
	if got := octet.Fill("ab", long); got != "ab"+strings.Repeat("\x00", long-2) {
		t.Errorf("Fill to %d bytes is wrong", long)
	}
}

// Beyond the limits of all of it nothing is promised of what is told; but the call ends.
func TestFillBeyondAllLimits(t *testing.T) {
	for _, n := range []int{math.MaxInt32 + 1, 1 << 40, 1 << 48, 1 << 62, math.MaxInt - 1, math.MaxInt} {
		octet.Fill("ab", n)
		octet.Fill("", n)
	}
}

func TestRoundExamples(t *testing.T) {
	const top = 1 << 62
	for _, c := range []struct {
		n, by, want int
		ok          bool
	}{
		{65, 64, 128, true},
		{64, 64, 64, true},
		{63, 64, 64, true},
		{1, 64, 64, true},
		{0, 64, 0, true},
		{0, 1, 0, true},
		{7, 1, 7, true},
		{7, 3, 9, true},
		{-1, 64, 0, false},
		{math.MinInt, 64, 0, false},
		{64, 0, 0, false},
		{64, -1, 0, false},
		{64, math.MinInt, 0, false},
		{top, 1, top, true},
		{top, 2, top, true},
		{top, 64, top, true},
		{top, top, top, true},
		{top, 3, 0, false},
		{top, top - 1, 0, false},
		{top, top + 1, 0, false},
		{top, math.MaxInt, 0, false},
		{top + 1, 1, 0, false},
		{top + 1, top, 0, false},
		{top - 1, 64, top, true},
		{top - 1, 1, top - 1, true},
		{top - 63, 64, top, true},
		{top - 1, 3, top - 1, true},
		{top - 3, 3, top - 1, true},
		{1, top, top, true},
		{1, top + 1, 0, false},
		{1, math.MaxInt, 0, false},
		{0, math.MaxInt, 0, true},
		{math.MaxInt, 1, 0, false},
		{math.MaxInt, 2, 0, false},
		{math.MaxInt, math.MaxInt, 0, false},
	} {
		if got, ok := octet.Round(c.n, c.by); got != c.want || ok != c.ok {
			t.Errorf("Round(%d, %d): %d %v, want %d %v", c.n, c.by, got, ok, c.want, c.ok)
		}
	}
}

func TestRoundAtAllEdges(t *testing.T) {
	top := new(big.Int).Lsh(big.NewInt(1), 62)
	for _, n := range append([]int{1<<62 - 63, 1<<62 - 64, 1<<62 - 65}, edges...) {
		for _, by := range edges {
			want, ok := 0, false
			if n >= 0 && by >= 1 {
				parts := new(big.Int).Add(big.NewInt(int64(n)), big.NewInt(int64(by)-1))
				least := new(big.Int).Mul(parts.Div(parts, big.NewInt(int64(by))), big.NewInt(int64(by)))
				if least.Cmp(top) <= 0 {
					want, ok = int(least.Int64()), true
				}
			}
			if got, is := octet.Round(n, by); got != want || is != ok {
				t.Errorf("Round(%d, %d): %d %v, want %d %v", n, by, got, is, want, ok)
			}
		}
	}
}

func TestWhatWasSetIsGot(t *testing.T) {
	for _, s := range texts {
		for width := 1; width <= 8; width++ {
			for at := 0; at+width <= len(s); at++ {
				for _, n := range numbers {
					setAndGet(t, s, at, width, n)
				}
			}
		}
	}
}

func setAndGet(t *testing.T, s string, at, width int, n uint64) {
	t.Helper()
	set, ok := octet.Set(s, at, width, n)
	if !ok || len(set) != len(s) || set[:at] != s[:at] || set[at+width:] != s[at+width:] {
		t.Fatalf("Set(%q, %d, %d, %x): %q %v: else is not as it was", s, at, width, n, set, ok)
	}
	want := n << (64 - 8*width) >> (64 - 8*width)
	if got, ok := octet.Get(set, at, width); got != want || !ok {
		t.Errorf("Get of Set(%q, %d, %d, %x): %x %v", s, at, width, n, got, ok)
	}
	if got, ok := octet.Part(set, at, width); got != octet.Put(n, width) || !ok {
		t.Errorf("Part of Set(%q, %d, %d, %x): %q %v", s, at, width, n, got, ok)
	}
	old, _ := octet.Get(s, at, width)
	if back, ok := octet.Set(set, at, width, old); back != s || !ok {
		t.Errorf("Set back of (%q, %d, %d, %x): %q %v", s, at, width, n, back, ok)
	}
}

func TestWhatWasNotSetIsAsItWas(t *testing.T) {
	for _, s := range texts {
		for _, at := range places(s) {
			for _, width := range []int{math.MinInt, -1, 0, 9, math.MaxInt} {
				if got, ok := octet.Set(s, at, width, math.MaxUint64); got != s || ok {
					t.Errorf("Set(%q, %d, %d): %q %v", s, at, width, got, ok)
				}
			}
		}
	}
}
