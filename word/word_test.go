package word_test

import (
	"math"
	"math/big"
	"testing"

	"flyleaf/api"
	"flyleaf/octet"
	"flyleaf/word"
)

// shape is what Words say of a kind.
type shape struct {
	kind, width   int
	signed, float bool
}

var kinds = []shape{
	{api.U8, 1, false, false}, {api.U16, 2, false, false}, {api.U32, 4, false, false}, {api.U64, 8, false, false},
	{api.I8, 1, true, false}, {api.I16, 2, true, false}, {api.I32, 4, true, false}, {api.I64, 8, true, false},
	{api.F64, 8, false, true},
}

// others are numbers that are no kind.
var others = []int{math.MinInt, -1 << 32, -9, -1, 0, 10, 11, 64, 256 + api.U8, 1<<32 + api.I8, math.MaxInt}

const (
	notNumber = 0x7ff8000000000001
	negZero   = 1 << 63
	inf       = 0x7ff0000000000000
	negInf    = 0xfff0000000000000
)

// nans are bits that are not a number: quiet and signalling ones, with and without the sign.
var nans = []uint64{notNumber, 0x7ff8000000000000, 0x7ff0000000000001, 0xfff0000000000001, 0xfff8000000000000, math.MaxUint64, 0x7fffffffffffffff}

func f64(f float64) uint64 { return math.Float64bits(f) }
func i64(n int64) uint64   { return uint64(n) }

// words are bits at which kinds begin and end, numbers that lie between two of F64, numbers with a point about these, and some from a short rule.
func words() []uint64 {
	l := append([]uint64{negZero, inf, negInf, 1, 1 << 52, 0x8000000000000001, 0x7fefffffffffffff, 0xffefffffffffffff}, nans...)
	for i := range 64 {
		for d := range uint64(7) {
			n := uint64(1)<<i + d - 3
			l = append(l, n, -n)
		}
	}
	for i := range 12 {
		n := uint64(1)<<(52+i) | uint64(1)<<i
		l = append(l, n-1, n, n+1, n|uint64(1)<<(i+1), -n, -n-1, -n+1)
	}
	for _, i := range []int{0, 1, 7, 8, 15, 16, 31, 32, 52, 53, 62, 63, 64, 65, 1000} {
		p := math.Ldexp(1, i)
		for _, f := range []float64{p, p - 0.5, p + 0.5, p - 0.75, p - 1, p + 1, p - 1.5, p + 1.5, math.Nextafter(p, 0), math.Nextafter(p, math.MaxFloat64)} {
			l = append(l, f64(f), f64(-f))
		}
	}
	n := uint64(88172645463325252)
	for range 60 {
		n ^= n << 13
		n ^= n >> 7
		n ^= n << 17
		l = append(l, n, n>>(n%64), f64(float64(int64(n))/float64(uint64(1)<<(n%64))))
	}
	return l
}

// clipped is the model of Clip, on numbers without an end.
func clipped(k shape, bits uint64) uint64 {
	if k.width == 0 {
		return 0
	}
	all := new(big.Int).Lsh(big.NewInt(1), uint(8*k.width))
	n := new(big.Int).Mod(new(big.Int).SetUint64(bits), all)
	if k.signed && n.Bit(8*k.width-1) == 1 {
		n.Sub(n, all)
	}
	return bitsOf(n)
}

// bitsOf are the lowest 64 bits of a number, in two's complement.
func bitsOf(n *big.Int) uint64 {
	return new(big.Int).Mod(n, new(big.Int).Lsh(big.NewInt(1), 64)).Uint64()
}

// number is the number that a clipped word is; nil, if it is none, or has no end.
func number(k shape, bits uint64) *big.Rat {
	switch {
	case k.float:
		return new(big.Rat).SetFloat64(math.Float64frombits(bits))
	case k.signed:
		return new(big.Rat).SetInt64(int64(bits))
	}
	return new(big.Rat).SetInt(new(big.Int).SetUint64(bits))
}

// ends is the model of the least and the greatest number of a kind without a point.
func ends(k shape) (*big.Int, *big.Int) {
	one := big.NewInt(1)
	if k.signed {
		half := new(big.Int).Lsh(one, uint(8*k.width-1))
		return new(big.Int).Neg(half), new(big.Int).Sub(half, one)
	}
	return new(big.Int), new(big.Int).Sub(new(big.Int).Lsh(one, uint(8*k.width)), one)
}

// converted is the model of Convert between kinds.
func converted(from, to shape, bits uint64) uint64 {
	bits = clipped(from, bits)
	if from.kind == to.kind {
		return bits
	}
	n := number(from, bits)
	if to.float {
		f, _ := n.Float64()
		return f64(f)
	}
	least, greatest := ends(to)
	if n == nil {
		switch bits {
		case inf:
			return bitsOf(greatest)
		case negInf:
			return bitsOf(least)
		}
		return 0
	}
	whole := new(big.Int).Quo(n.Num(), n.Denom())
	switch {
	case whole.Cmp(least) < 0:
		whole = least
	case whole.Cmp(greatest) > 0:
		whole = greatest
	}
	return bitsOf(whole)
}

// compared is the model of Compare of kinds.
func compared(k shape, a, b uint64) int {
	a, b = clipped(k, a), clipped(k, b)
	if k.float && (isNan(a) || isNan(b)) {
		return 2
	}
	return rank(k, a).Cmp(rank(k, b))
}

func isNan(bits uint64) bool { return bits&inf == inf && bits<<12 != 0 }

// rank is a number that stands in the order as the word does.
func rank(k shape, bits uint64) *big.Rat {
	n := number(k, bits)
	if n == nil {
		n = new(big.Rat).SetInt(new(big.Int).Lsh(big.NewInt(1), 2000))
		if bits == negInf {
			n.Neg(n)
		}
	}
	return n
}

func TestKinds(t *testing.T) {
	for _, k := range kinds {
		if got := word.Width(k.kind); got != k.width {
			t.Errorf("Width(%d): %d, want %d", k.kind, got, k.width)
		}
		if got := word.Signed(k.kind); got != k.signed {
			t.Errorf("Signed(%d): %v, want %v", k.kind, got, k.signed)
		}
	}
	for _, kind := range others {
		if got := word.Width(kind); got != 0 {
			t.Errorf("Width(%d): %d, want 0", kind, got)
		}
		if word.Signed(kind) {
			t.Errorf("Signed(%d): true", kind)
		}
	}
}

func TestClipExamples(t *testing.T) {
	for _, c := range []struct {
		kind       int
		bits, want uint64
	}{
		{api.U8, 0x1ff, 0xff},
		{api.U8, 0x80, 0x80},
		{api.U16, 0xf1f2f3f4f5f6f7f8, 0xf7f8},
		{api.U32, 0xf1f2f3f4f5f6f7f8, 0xf5f6f7f8},
		{api.U64, 0xf1f2f3f4f5f6f7f8, 0xf1f2f3f4f5f6f7f8},
		{api.I8, 0x7f, 0x7f},
		{api.I8, 0x80, 0xffffffffffffff80},
		{api.I8, 0x17f, 0x7f},
		{api.I8, math.MaxUint64, math.MaxUint64},
		{api.I16, 0x8000, 0xffffffffffff8000},
		{api.I16, 0xffffffffffff7fff, 0x7fff},
		{api.I32, 0x80000000, 0xffffffff80000000},
		{api.I32, 0x17fffffff, 0x7fffffff},
		{api.I64, 1 << 63, 1 << 63},
		{api.F64, 0xfff0000000000001, 0xfff0000000000001},
		{api.F64, negZero, negZero},
	} {
		if got := word.Clip(c.kind, c.bits); got != c.want {
			t.Errorf("Clip(%d, %x): %x, want %x", c.kind, c.bits, got, c.want)
		}
	}
}

func TestClipOfAllWords(t *testing.T) {
	for _, bits := range words() {
		for _, k := range kinds {
			if got, want := word.Clip(k.kind, bits), clipped(k, bits); got != want {
				t.Errorf("Clip(%d, %x): %x, want %x", k.kind, bits, got, want)
			}
		}
		for _, kind := range others {
			if got := word.Clip(kind, bits); got != 0 {
				t.Errorf("Clip(%d, %x): %x, want 0", kind, bits, got)
			}
		}
	}
}

func TestBytesExamples(t *testing.T) {
	for _, c := range []struct {
		kind int
		bits uint64
		want string
	}{
		{api.U8, 258, "\x02"},
		{api.U16, 258, "\x02\x01"},
		{api.U32, 258, "\x02\x01\x00\x00"},
		{api.U64, 258, "\x02\x01\x00\x00\x00\x00\x00\x00"},
		{api.I8, i64(-2), "\xfe"},
		{api.I16, i64(-2), "\xfe\xff"},
		{api.I32, i64(-2), "\xfe\xff\xff\xff"},
		{api.I64, i64(-2), "\xfe\xff\xff\xff\xff\xff\xff\xff"},
		{api.F64, f64(-1.5), "\x00\x00\x00\x00\x00\x00\xf8\xbf"},
		{0, math.MaxUint64, ""},
		{10, math.MaxUint64, ""},
		{-1, math.MaxUint64, ""},
	} {
		if got := word.Bytes(c.kind, c.bits); got != c.want {
			t.Errorf("Bytes(%d, %x): %x, want %x", c.kind, c.bits, got, c.want)
		}
	}
}

func TestReadExamples(t *testing.T) {
	for _, c := range []struct {
		kind int
		s    string
		bits uint64
		err  api.Errno
	}{
		{api.U8, "\xfe", 0xfe, api.OK},
		{api.I8, "\xfe", i64(-2), api.OK},
		{api.I8, "\x7f", 0x7f, api.OK},
		{api.U16, "\x02\x01", 258, api.OK},
		{api.I16, "\x00\x80", i64(-32768), api.OK},
		{api.U32, "\xff\xff\xff\xff", 0xffffffff, api.OK},
		{api.I32, "\xff\xff\xff\xff", i64(-1), api.OK},
		{api.U64, "\x08\x07\x06\x05\x04\x03\x02\xf1", 0xf102030405060708, api.OK},
		{api.I64, "\x08\x07\x06\x05\x04\x03\x02\xf1", 0xf102030405060708, api.OK},
		{api.F64, "\x01\x00\x00\x00\x00\x00\xf0\xff", 0xfff0000000000001, api.OK},
		{api.U16, "\x02", 0, api.ErrForm},
		{api.U16, "\x02\x01\x00", 0, api.ErrForm},
		{api.U8, "", 0, api.ErrForm},
		{api.F64, "\xff\xff\xff\xff\xff\xff\xff\xff\xff", 0, api.ErrForm},
		{0, "", 0, api.ErrArg},
		{0, "\x02", 0, api.ErrArg},
		{10, "\x01\x02\x03\x04\x05\x06\x07\x08", 0, api.ErrArg},
		{-1, "\x02", 0, api.ErrArg},
	} {
		if bits, err := word.Read(c.kind, c.s); bits != c.bits || err != c.err {
			t.Errorf("Read(%d, %x): %x %d, want %x %d", c.kind, c.s, bits, err, c.bits, c.err)
		}
	}
}

func TestReadAtAllLengths(t *testing.T) {
	const s = "\xf1\xf2\xf3\xf4\xf5\xf6\xf7\xf8\xf9\xfa"
	for n := range len(s) + 1 {
		for _, k := range kinds {
			want, err := uint64(0), api.ErrForm
			if n == k.width {
				all, _ := octet.Get(s, 0, n)
				want, err = clipped(k, all), api.OK
			}
			if got, e := word.Read(k.kind, s[:n]); got != want || e != err {
				t.Errorf("Read(%d, %x): %x %d, want %x %d", k.kind, s[:n], got, e, want, err)
			}
		}
		for _, kind := range others {
			if got, e := word.Read(kind, s[:n]); got != 0 || e != api.ErrArg {
				t.Errorf("Read(%d, %x): %x %d, want 0 %d", kind, s[:n], got, e, api.ErrArg)
			}
		}
	}
}

func TestBytesAreRead(t *testing.T) {
	for _, bits := range words() {
		for _, k := range kinds {
			s := word.Bytes(k.kind, bits)
			if s != octet.Put(bits, k.width) {
				t.Errorf("Bytes(%d, %x): %x", k.kind, bits, s)
			}
			if got, err := word.Read(k.kind, s); got != clipped(k, bits) || err != api.OK {
				t.Errorf("Read(%d, %x): %x %d", k.kind, s, got, err)
			}
		}
		for _, kind := range others {
			if s := word.Bytes(kind, bits); s != "" {
				t.Errorf("Bytes(%d, %x): %x, want nothing", kind, bits, s)
			}
		}
	}
}

func TestConvertExamples(t *testing.T) {
	for _, c := range []struct {
		from, to   int
		bits, want uint64
	}{
		{api.I64, api.U8, i64(-1), 0},
		{api.U64, api.I8, 200, 127},
		{api.I64, api.I8, i64(-200), i64(-128)},
		{api.I64, api.I8, i64(-128), i64(-128)},
		{api.I64, api.U64, i64(-1), 0},
		{api.U64, api.I64, math.MaxUint64, math.MaxInt64},
		{api.U64, api.U16, 65535, 65535},
		{api.U64, api.U16, 65536, 65535},
		{api.U16, api.U8, 256, 255},
		{api.U8, api.U16, 0x1ff, 0xff},
		{api.I8, api.I64, 0x80, i64(-128)},
		{api.I8, api.U32, 0x17f, 127},
		{api.I8, api.I8, 0xff, i64(-1)},
		{api.U8, api.U8, 0x1ff, 0xff},
		{0, api.U8, 7, 0},
		{api.U8, 0, 7, 0},
		{api.F64, 10, f64(7), 0},
		{10, api.F64, f64(7), 0},
		{0, 0, 7, 0},
		{10, 10, 7, 0},
		{-1, -1, 7, 0},
	} {
		if got := word.Convert(c.from, c.to, c.bits); got != c.want {
			t.Errorf("Convert(%d, %d, %x): %x, want %x", c.from, c.to, c.bits, got, c.want)
		}
	}
}

func TestConvertExamplesWithAPoint(t *testing.T) {
	for _, c := range []struct {
		from, to   int
		bits, want uint64
	}{
		{api.F64, api.I64, notNumber, 0},
		{api.F64, api.U8, 0xfff0000000000001, 0},
		{api.F64, api.I64, f64(-1.5), i64(-1)},
		{api.F64, api.I64, f64(1.999), 1},
		{api.F64, api.U8, f64(-0.999), 0},
		{api.F64, api.U8, negZero, 0},
		{api.F64, api.U8, f64(-7), 0},
		{api.F64, api.U8, f64(255.999), 255},
		{api.F64, api.U8, f64(256), 255},
		{api.F64, api.I8, f64(-128.999), i64(-128)},
		{api.F64, api.I8, f64(-127.999), i64(-127)},
		{api.F64, api.U64, f64(1 << 63), 1 << 63},
		{api.F64, api.U64, f64(1 << 64), math.MaxUint64},
		{api.F64, api.U64, f64(math.Nextafter(1<<64, 0)), 1<<64 - 2048},
		{api.F64, api.I64, f64(1 << 63), math.MaxInt64},
		{api.F64, api.I64, f64(math.Nextafter(1<<63, 0)), 1<<63 - 1024},
		{api.F64, api.I64, f64(-1 << 63), 1 << 63},
		{api.F64, api.I64, negInf, 1 << 63},
		{api.F64, api.I64, inf, math.MaxInt64},
		{api.F64, api.U32, inf, math.MaxUint32},
		{api.F64, api.U32, negInf, 0},
		{api.F64, api.F64, 0xfff0000000000001, 0xfff0000000000001},
		{api.F64, api.F64, negZero, negZero},
		{api.U8, api.F64, 0x1ff, f64(255)},
		{api.I8, api.F64, 0xff, f64(-1)},
		{api.I64, api.F64, 0, 0},
		{api.U64, api.F64, math.MaxUint64, f64(1 << 64)},
		{api.I64, api.F64, math.MaxUint64, f64(-1)},
		{api.I64, api.F64, 1 << 63, f64(-1 << 63)},
		{api.U64, api.F64, 1<<53 + 1, f64(1 << 53)},
		{api.U64, api.F64, 1<<53 + 3, f64(1<<53 + 4)},
		{api.I64, api.F64, i64(-(1<<53 + 1)), f64(-(1 << 53))},
		{api.U64, api.F64, 1<<63 + 1024, f64(1 << 63)},
		{api.U64, api.F64, 1<<63 + 1025, f64(1<<63 + 2048)},
		{api.U64, api.F64, 1<<63 + 3072, f64(1<<63 + 4096)},
	} {
		if got := word.Convert(c.from, c.to, c.bits); got != c.want {
			t.Errorf("Convert(%d, %d, %x): %x, want %x", c.from, c.to, c.bits, got, c.want)
		}
	}
}

func TestConvertOfAllWords(t *testing.T) {
	for _, bits := range words() {
		for _, from := range kinds {
			for _, to := range kinds {
				if got, want := word.Convert(from.kind, to.kind, bits), converted(from, to, bits); got != want {
					t.Errorf("Convert(%d, %d, %x): %x, want %x", from.kind, to.kind, bits, got, want)
				}
			}
		}
	}
}

func TestConvertOfNoKind(t *testing.T) {
	for _, bits := range []uint64{0, 1, 7, 1 << 63, f64(7), inf, notNumber, math.MaxUint64} {
		for _, no := range others {
			for _, k := range kinds {
				if a, b := word.Convert(no, k.kind, bits), word.Convert(k.kind, no, bits); a != 0 || b != 0 {
					t.Errorf("Convert(%d, %d, %x) and back: %x %x, want 0 0", no, k.kind, bits, a, b)
				}
			}
			for _, to := range others {
				if got := word.Convert(no, to, bits); got != 0 {
					t.Errorf("Convert(%d, %d, %x): %x, want 0", no, to, bits, got)
				}
			}
		}
	}
}

func TestCompareExamples(t *testing.T) {
	for _, c := range []struct {
		kind int
		a, b uint64
		want int
	}{
		{api.F64, negZero, 0, 0},
		{api.F64, 0, negZero, 0},
		{api.F64, f64(-1), f64(1), -1},
		{api.F64, f64(-1), f64(-2), 1},
		{api.F64, negInf, f64(-math.MaxFloat64), -1},
		{api.F64, inf, inf, 0},
		{api.F64, notNumber, 0, 2},
		{api.F64, 0, notNumber, 2},
		{api.F64, notNumber, notNumber, 2},
		{api.F64, 1, 0, 1},
		{api.U64, math.MaxUint64, 0, 1},
		{api.I64, math.MaxUint64, 0, -1},
		{api.U8, 0x80, 0x7f, 1},
		{api.I8, 0x80, 0x7f, -1},
		{api.U8, 0x100, 0, 0},
		{api.U8, 0x100, 1, -1},
		{api.I16, 0x18000, 0x8000, 0},
		{api.U64, notNumber, notNumber, 0},
		{0, 1, 2, 0},
		{10, notNumber, 2, 0},
		{-1, 2, 1, 0},
	} {
		if got := word.Compare(c.kind, c.a, c.b); got != c.want {
			t.Errorf("Compare(%d, %x, %x): %d, want %d", c.kind, c.a, c.b, got, c.want)
		}
	}
}

func TestLeastGreatestExamples(t *testing.T) {
	for _, c := range []struct {
		kind                  int
		a, b, least, greatest uint64
	}{
		{api.U8, 1, 2, 1, 2},
		{api.U8, 0x1ff, 0x100, 0, 0xff},
		{api.I8, 0xff, 1, i64(-1), 1},
		{api.I8, 0x180, 0x80, i64(-128), i64(-128)},
		{api.U64, math.MaxUint64, 1, 1, math.MaxUint64},
		{api.I64, math.MaxUint64, 1, math.MaxUint64, 1},
		{api.F64, f64(1.5), f64(-1.5), f64(-1.5), f64(1.5)},
		{api.F64, f64(1.5), f64(1.5), f64(1.5), f64(1.5)},
		{api.F64, 0, 0, 0, 0},
		{api.F64, negZero, 0, negZero, 0},
		{api.F64, 0, negZero, negZero, 0},
		{api.F64, negZero, negZero, negZero, negZero},
		{api.F64, inf, negInf, negInf, inf},
		{api.F64, 0xfff0000000000002, 1, notNumber, notNumber},
		{api.F64, negInf, math.MaxUint64, notNumber, notNumber},
		{api.F64, 0x7ff8000000000000, 0xfff8000000000000, notNumber, notNumber},
		{0, 1, 2, 0, 0},
		{10, notNumber, 2, 0, 0},
		{math.MinInt, 1, 2, 0, 0},
	} {
		if got := word.Least(c.kind, c.a, c.b); got != c.least {
			t.Errorf("Least(%d, %x, %x): %x, want %x", c.kind, c.a, c.b, got, c.least)
		}
		if got := word.Greatest(c.kind, c.a, c.b); got != c.greatest {
			t.Errorf("Greatest(%d, %x, %x): %x, want %x", c.kind, c.a, c.b, got, c.greatest)
		}
	}
}

func TestOrderOfAllWords(t *testing.T) {
	l := words()
	for i, a := range l {
		for _, b := range []uint64{a, a ^ negZero, a + 1, l[(i+1)%len(l)], l[(7*i+3)%len(l)], 0, negZero, notNumber} {
			for _, k := range kinds {
				inOrder(t, k, a, b)
				inOrder(t, k, b, a)
			}
			for _, kind := range others {
				c, x, y := word.Compare(kind, a, b), word.Least(kind, a, b), word.Greatest(kind, a, b)
				if c != 0 || x != 0 || y != 0 {
					t.Errorf("Compare, Least, Greatest(%d, %x, %x): %d %x %x, want 0", kind, a, b, c, x, y)
				}
			}
		}
	}
}

func inOrder(t *testing.T, k shape, a, b uint64) {
	t.Helper()
	want := compared(k, a, b)
	if got := word.Compare(k.kind, a, b); got != want {
		t.Errorf("Compare(%d, %x, %x): %d, want %d", k.kind, a, b, got, want)
	}
	least, greatest := clipped(k, a), clipped(k, b)
	switch {
	case want == 2:
		least, greatest = notNumber, notNumber
	case want == 1 || want == 0 && greatest == negZero && k.float:
		least, greatest = greatest, least
	}
	if got := word.Least(k.kind, a, b); got != least {
		t.Errorf("Least(%d, %x, %x): %x, want %x", k.kind, a, b, got, least)
	}
	if got := word.Greatest(k.kind, a, b); got != greatest {
		t.Errorf("Greatest(%d, %x, %x): %x, want %x", k.kind, a, b, got, greatest)
	}
}

// wider tells whether the kind to has all numbers of from.
func wider(from, to shape) bool {
	if from.float || to.float {
		return from.kind == to.kind
	}
	a, b := ends(from)
	c, d := ends(to)
	return c.Cmp(a) <= 0 && b.Cmp(d) <= 0
}

func TestNothingIsLostInAWiderKind(t *testing.T) {
	for _, bits := range words() {
		for _, from := range kinds {
			for _, to := range kinds {
				if !wider(from, to) {
					continue
				}
				there := word.Convert(from.kind, to.kind, bits)
				if back := word.Convert(to.kind, from.kind, there); back != clipped(from, bits) {
					t.Errorf("Convert(%d, %d, %x) and back: %x, %x", from.kind, to.kind, bits, there, back)
				}
			}
		}
	}
}

func TestNumbersComeBackFromF64(t *testing.T) {
	const most = 1 << 53
	for _, bits := range words() {
		for _, k := range kinds {
			n := clipped(k, bits)
			if k.float || k.signed && (int64(n) > most || int64(n) < -most) || !k.signed && n > most {
				continue
			}
			there := word.Convert(k.kind, api.F64, bits)
			if back := word.Convert(api.F64, k.kind, there); back != n {
				t.Errorf("Convert(%d, F64, %x) and back: %x, %x", k.kind, bits, there, back)
			}
		}
	}
}
