package needs_test

import (
	"math"
	"slices"
	"strconv"
	"strings"
	"testing"

	"flyleaf/api"
	"flyleaf/needs"
)

// most is written out: a test that asked the program for it would follow it if it were wrong.
const most = 64

// list is a list of libraries, each as its name, a colon, and what it needs, with blanks between; parts are cut by semicolons.
func list(text string) []api.Lib {
	l := []api.Lib{}
	for part := range strings.SplitSeq(text, ";") {
		name, needed, _ := strings.Cut(part, ":")
		l = append(l, api.Lib{Name: strings.TrimSpace(name), Needed: strings.Fields(needed)})
	}
	return l
}

// needed is what the first library of a name needs; false, if there is none.
func needed(l []api.Lib, name string) ([]string, bool) {
	for _, lib := range l {
		if lib.Name == name {
			return lib.Needed, true
		}
	}
	return nil, false
}

// model is a root's closure as the document says it, without those that are missing, and those.
func model(l []api.Lib, root string) (order, missing []string) {
	came := []string{root}
	for i := 0; i < len(came); i++ {
		names, there := needed(l, came[i])
		if !there {
			missing = append(missing, came[i])
			continue
		}
		order = append(order, came[i])
		for _, name := range names {
			if !slices.Contains(came, name) {
				came = append(came, name)
			}
		}
	}
	return order, missing
}

// far is over how many needs each of a closure is, found by taking what is shorter until nothing is; -1, if it is over none.
func far(l []api.Lib, root string, order []string) map[string]int {
	least := map[string]int{}
	for _, name := range order {
		least[name] = len(order)
	}
	if len(order) > 0 {
		least[root] = 0
	}
	for range order {
		for _, name := range order {
			names, _ := needed(l, name)
			for _, need := range names {
				if n, ok := least[need]; ok {
					least[need] = min(n, least[name]+1)
				}
			}
		}
	}
	return least
}

// round is whether one of those needs itself: from each of them all that it needs is gone over, at once and over others.
func round(l []api.Lib, order []string) bool {
	for _, name := range order {
		came, _ := needed(l, name)
		came = slices.Clone(came)
		for i := 0; i < len(came); i++ {
			more, _ := needed(l, came[i])
			for _, need := range more {
				if !slices.Contains(came, need) {
					came = append(came, need)
				}
			}
		}
		if slices.Contains(came, name) {
			return true
		}
	}
	return false
}

// tells asks what the order of a root is.
func tells(t *testing.T, l []api.Lib, root string, want ...string) {
	t.Helper()
	if got, err := needs.Order(l, root); err != api.OK || !slices.Equal(got, want) {
		t.Fatalf("Order(%v, %q): %q %d, want %q 0", l, root, got, err, want)
	}
}

// refuses asks that a root has no order.
func refuses(t *testing.T, l []api.Lib, root string, want api.Errno) {
	t.Helper()
	if got, err := needs.Order(l, root); err != want || len(got) != 0 {
		t.Fatalf("Order(%v, %q): %q %d, want nothing and %d", l, root, got, err, want)
	}
}

// lacks asks what is missing.
func lacks(t *testing.T, l []api.Lib, root string, want ...string) {
	t.Helper()
	if got := needs.Missing(l, root); !slices.Equal(got, want) {
		t.Fatalf("Missing(%v, %q): %q, want %q", l, root, got, want)
	}
}

// deep asks over how many needs a name is.
func deep(t *testing.T, l []api.Lib, root, name string, want int) {
	t.Helper()
	if got := needs.Depth(l, root, name); got != want {
		t.Fatalf("Depth(%v, %q, %q): %d, want %d", l, root, name, got, want)
	}
}

// goesRound asks whether one of a closure needs itself.
func goesRound(t *testing.T, l []api.Lib, root string, want bool) {
	t.Helper()
	if got := needs.Round(l, root); got != want {
		t.Fatalf("Round(%v, %q): %v", l, root, got)
	}
}

// alike asks all calls of a root what the model tells, of all those names.
func alike(t *testing.T, l []api.Lib, root string, names ...string) {
	t.Helper()
	order, missing := model(l, root)
	switch {
	case len(order) == 0:
		refuses(t, l, root, 12)
	case len(missing) > 0 || len(order) > most:
		refuses(t, l, root, 17)
	default:
		tells(t, l, root, order...)
	}
	lacks(t, l, root, missing...)
	least := far(l, root, order)
	for _, name := range names {
		want, ok := least[name]
		if !ok {
			want = -1
		}
		deep(t, l, root, name, want)
	}
	goesRound(t, l, root, round(l, order))
}

// draws is a row of numbers that look drawn, the same each time.
type draws uint64

// upTo is the next number, from 0 to n - 1.
func (d *draws) upTo(n int) int {
	*d = *d*6364136223846793005 + 1442695040888963407
	return int(uint64(*d) >> 33 % uint64(n))
}

// libs are libraries of so many names, each with up to so many needs, of up to more names than there are.
func (d *draws) libs(count, most, more int) []api.Lib {
	l := []api.Lib{}
	for i := range count {
		lib := api.Lib{Name: "n" + strconv.Itoa(i)}
		for range d.upTo(most + 1) {
			lib.Needed = append(lib.Needed, "n"+strconv.Itoa(d.upTo(count+more)))
		}
		l = append(l, lib)
	}
	return l
}

// chain is so many libraries each of which needs the next one: 0, 1, and so on.
func chain(n int) []api.Lib {
	l := make([]api.Lib, n)
	for i := range l {
		l[i].Name = strconv.Itoa(i)
		if i > 0 {
			l[i-1].Needed = []string{l[i].Name}
		}
	}
	return l
}

// fan is so many libraries the first of which, 0, needs all others.
func fan(n int) []api.Lib {
	l := make([]api.Lib, n)
	for i := range l {
		l[i].Name = strconv.Itoa(i)
		if i > 0 {
			l[0].Needed = append(l[0].Needed, l[i].Name)
		}
	}
	return l
}

// tree is so many libraries each of which needs two.
func tree(n int) []api.Lib {
	l := make([]api.Lib, n)
	for i := range l {
		l[i].Name = strconv.Itoa(i)
		if i > 0 {
			l[(i-1)/2].Needed = append(l[(i-1)/2].Needed, l[i].Name)
		}
	}
	return l
}

// named are the names of libraries, in order.
func named(l []api.Lib) []string {
	names := []string{}
	for _, lib := range l {
		names = append(names, lib.Name)
	}
	return names
}

func TestLimits(t *testing.T) {
	if api.OK != 0 || api.ErrNone != 12 || api.ErrLib != 17 {
		t.Fatal("the numbers of api are other ones than the document's")
	}
}

// P12.1: Order

func TestOrderExamples(t *testing.T) {
	for _, c := range []struct{ text, root, want string }{
		{"a: b c; b: d; c: d a; d:", "a", "a b c d"},
		{"d:; c: d a; b: d; a: b c", "a", "a b c d"},
		{"a: b c; b: d; c: d a; d:", "b", "b d"},
		{"a: b c; b: d; c: d a; d:", "c", "c d a b"},
		{"a: b c; b: d; c: d a; d:", "d", "d"},
		{"a: c b; b: d; c: d a; d:", "a", "a c b d"},
		{"a:", "a", "a"},
		{"a: a", "a", "a"},
		{"a: a a b b a b; b: b a", "a", "a b"},
		{"a: b c; b: x; c: y; x:; y:", "a", "a b c x y"},
		{"a: b c; b: x; c: b y x; x: y; y: a", "a", "a b c x y"},
		{"a: b; b: c; c: a", "b", "b c a"},
		{"a: b; a: c; b: d; b: e; c:; d:; e:", "a", "a b d"},
		{"x: y; a: b; b:", "a", "a b"},
		{"a: B; B: b; b: A; A:", "a", "a B b A"},
	} {
		tells(t, list(c.text), c.root, strings.Fields(c.want)...)
	}
}

// TestNoRoot has lists without the root: that is told ahead of whatever else is wrong.
func TestNoRoot(t *testing.T) {
	for _, root := range []string{"", "b", "aa", "A", "a ", "a\x00", "\xff", "c", strings.Repeat("a", 300)} {
		for _, l := range [][]api.Lib{nil, {}, list("a:"), list("a: b"), list("a: b c aa A"), list("x: y; y: z; a: x"), chain(200)} {
			refuses(t, l, root, 12)
			lacks(t, l, root, root)
			deep(t, l, root, root, -1)
			deep(t, l, root, "a", -1)
			goesRound(t, l, root, false)
		}
	}
}

func TestOneThatIsNotInTheList(t *testing.T) {
	for _, c := range []struct{ text, root, want string }{
		{"a: b", "a", "b"},
		{"a: b c; b:", "a", "c"},
		{"a: x b; b: y x; c: z", "a", "x y"},
		{"a: b x; b: c y; c: a z x w z", "a", "x y z w"},
		{"a: b x; b: c y; c: a z x w z", "b", "y z x w"},
		{"a: x x x x", "a", "x"},
		{"a: b; b: c; c: d; d: e", "a", "e"},
		{"a: b c; b: y; c: x", "a", "y x"},
		{"a: c b; b: y; c: x", "a", "x y"},
		{"a: B b; b: A", "a", "B A"},
		{"a: b; a: x; b: y", "a", "y"},
	} {
		l := list(c.text)
		refuses(t, l, c.root, 17)
		lacks(t, l, c.root, strings.Fields(c.want)...)
	}
	l := list("a: b; b:; c: x; d: a c")
	tells(t, l, "a", "a", "b")
	lacks(t, l, "a")
	lacks(t, l, "b")
	lacks(t, l, "d", "x")
}

// TestMost has closures of up to and beyond 64, of each form.
func TestMost(t *testing.T) {
	for n := 1; n < 100; n++ {
		for _, l := range [][]api.Lib{chain(n), fan(n), tree(n)} {
			if n <= most {
				tells(t, l, "0", named(l)...)
			} else {
				refuses(t, l, "0", 17)
			}
			lacks(t, l, "0")
			alike(t, l, "0", "0", "1", strconv.Itoa(n-1), strconv.Itoa(n))
			last := &l[n-1]
			last.Needed = append(last.Needed, "x")
			refuses(t, l, "0", 17)
			lacks(t, l, "0", "x")
			last.Needed = []string{"0", last.Name}
			alike(t, l, "0", last.Name)
			goesRound(t, l, "0", true)
		}
	}
}

// TestListsAreLongerThanClosures has lists of more than 64 of which the root needs few.
func TestListsAreLongerThanClosures(t *testing.T) {
	l := chain(1000)
	tells(t, l, "936", named(l[936:])...)
	refuses(t, l, "935", 17)
	tells(t, l, "999", "999")
	l[950].Needed = nil
	tells(t, l, "936", named(l[936:951])...)
	tells(t, l, "887", named(l[887:951])...)
	refuses(t, l, "886", 17)
}

// TestFirstOfAName has names more than once: what a later one needs counts for nothing.
func TestFirstOfAName(t *testing.T) {
	l := list("a: b; b: c; b: d; a: x; c:; c: x; b: b")
	tells(t, l, "a", "a", "b", "c")
	lacks(t, l, "a")
	deep(t, l, "a", "d", -1)
	goesRound(t, l, "a", false)
	slices.Reverse(l)
	refuses(t, l, "a", 17)
	lacks(t, l, "a", "x")
	goesRound(t, l, "b", true)
	many := slices.Concat(chain(most), chain(most+1), list("0: x; 63: y"))
	tells(t, many, "0", named(many[:most])...)
}

// TestNamesAreTexts has names of all bytes, and none.
func TestNamesAreTexts(t *testing.T) {
	l := []api.Lib{{Name: "", Needed: []string{"\x00", "a", "\xff\xfe"}}, {Name: "\xff\xfe"}, {Name: "a", Needed: []string{"", "a\x00"}}, {Name: "\x00", Needed: []string{"ä"}}, {Name: "a\x00"}, {Name: "ä"}}
	tells(t, l, "", "", "\x00", "a", "\xff\xfe", "ä", "a\x00")
	deep(t, l, "", "", 0)
	deep(t, l, "", "ä", 2)
	deep(t, l, "ä", "", -1)
	lacks(t, []api.Lib{{Name: "a", Needed: []string{"", "\x00", ""}}}, "a", "", "\x00")
	long := strings.Repeat("n", 100000)
	tells(t, []api.Lib{{Name: long, Needed: []string{long + "n"}}, {Name: long + "n"}}, long, long, long+"n")
}

// P12.2: Depth and Round

func TestDepthExamples(t *testing.T) {
	l := list("a: b c; b: d x; c: d a e; d: f; e: f y; f: b; g: a z")
	for name, want := range map[string]int{"a": 0, "b": 1, "c": 1, "d": 2, "e": 2, "f": 3, "g": -1, "x": -1, "y": -1, "z": -1, "": -1, "q": -1} {
		deep(t, l, "a", name, want)
	}
	for name, want := range map[string]int{"g": 0, "a": 1, "b": 2, "c": 2, "d": 3, "e": 3, "f": 4, "x": -1, "z": -1} {
		deep(t, l, "g", name, want)
	}
	for name, want := range map[string]int{"f": 0, "b": 1, "d": 2, "a": -1, "x": -1} {
		deep(t, l, "f", name, want)
	}
	short := list("a: b c d e; b: c; c: d; d: e; e: f; f:")
	deep(t, short, "a", "e", 1)
	deep(t, short, "a", "f", 2)
	deep(t, short, "b", "f", 4)
}

func TestRoundExamples(t *testing.T) {
	for _, c := range []struct {
		text, root string
		want       bool
	}{
		{"a:", "a", false},
		{"a: a", "a", true},
		{"a: b; b: a", "a", true},
		{"a: b; b: a", "b", true},
		{"a: b; b: c; c: b", "a", true},
		{"a: b; b: c; c: c", "a", true},
		{"a: b c; b: d; c: d; d:", "a", false},
		{"a: b b; b: d d; d:", "a", false},
		{"a: b c; b: d; c: d b; d:", "a", false},
		{"a: b c; b: d; c: d a; d:", "a", true},
		{"a: b c; b: d; c: d a; d:", "b", false},
		{"a: b; b:; c: c", "a", false},
		{"a: b; b:; c: a c", "a", false},
		{"a: b; b:; c: a c", "c", true},
		{"a: x; x: y; y: z; z: x", "a", true},
		{"a: x; b: a", "a", false},
		{"a: x; b: a", "x", false},
		{"a: x b; b: x a", "a", true},
		{"a: b; a: a; b:", "a", false},
		{"a: b; b:; b: a", "a", false},
	} {
		goesRound(t, list(c.text), c.root, c.want)
	}
}

// TestLongChains has closures of far more than 64: they are told nonetheless.
func TestLongChains(t *testing.T) {
	const n = 200000
	l := chain(n)
	last := strconv.Itoa(n - 1)
	deep(t, l, "0", last, n-1)
	deep(t, l, "50000", last, n-1-50000)
	deep(t, l, last, "0", -1)
	goesRound(t, l, "0", false)
	l[n-1].Needed = []string{"x", "199998", "y"}
	if got := needs.Missing(l, "0"); !slices.Equal(got, []string{"x", "y"}) {
		t.Fatalf("Missing of a long chain: %q", got)
	}
	goesRound(t, l, "0", true)
	if got, err := needs.Order(l, "0"); err != 17 || len(got) != 0 {
		t.Fatalf("Order of a long chain: %d names, %d", len(got), err)
	}
	wide := fan(n)
	deep(t, wide, "0", last, 1)
	goesRound(t, wide, "0", false)
	wide[n-1].Needed = wide[0].Needed
	goesRound(t, wide, "0", true)
	if got := needs.Missing(wide[:1], "0"); !slices.Equal(got, wide[0].Needed) {
		t.Fatalf("%d are missing", len(got))
	}
}

// TestAllSmallLists has each list of three in which each has up to two needs, of four names.
func TestAllSmallLists(t *testing.T) {
	names := []string{"a", "b", "c", "d"}
	all := [][]string{nil}
	for _, one := range names {
		all = append(all, []string{one})
		for _, two := range names {
			all = append(all, []string{one, two})
		}
	}
	for _, a := range all {
		for _, b := range all {
			for _, c := range all {
				l := []api.Lib{{Name: "a", Needed: a}, {Name: "b", Needed: b}, {Name: "c", Needed: c}}
				alike(t, l, "a", names...)
				alike(t, l[1:], "a", names...)
				l[2].Name = "b"
				alike(t, l, "a", names...)
				l[2].Name = "d"
				alike(t, l, "d", names...)
			}
		}
	}
}

func TestDrawnLists(t *testing.T) {
	g := draws(121)
	for range 3000 {
		l := g.libs(1+g.upTo(12), g.upTo(5), g.upTo(3))
		l = append(l, g.libs(g.upTo(8), g.upTo(5), g.upTo(3))...)
		for range 3 {
			names := []string{"n0", "n1", "n2", "n5", "n11", "n12"}
			alike(t, l, "n"+strconv.Itoa(g.upTo(14)), names...)
		}
	}
	for range 200 {
		l := g.libs(60+g.upTo(40), 1+g.upTo(4), g.upTo(20)/19)
		alike(t, l, "n0", "n0", "n3", "n50", "n70", "n99", "n100")
	}
}

// P12.3

// TestWhatFollows asks of orders alone what must be so of each.
func TestWhatFollows(t *testing.T) {
	g := draws(122)
	told := 0
	for range 2000 {
		l := g.libs(1+g.upTo(80), 1+g.upTo(4), g.upTo(9)/8)
		root := l[g.upTo(len(l))].Name
		order, err := needs.Order(l, root)
		if err != api.OK {
			continue
		}
		told++
		if order[0] != root || len(order) > most {
			t.Fatalf("the order of %q is %q", root, order)
		}
		for i, name := range order {
			if slices.Contains(order[:i], name) {
				t.Fatalf("%q comes twice in %q", name, order)
			}
			user := slices.IndexFunc(order[:i], func(user string) bool {
				names, _ := needed(l, user)
				return slices.Contains(names, name)
			})
			if i > 0 && user < 0 {
				t.Fatalf("%q comes in %q behind none that needs it", name, order)
			}
			if i > 0 && needs.Depth(l, root, order[i-1]) > needs.Depth(l, root, name) {
				t.Fatalf("%q comes behind %q, which is deeper", name, order[i-1])
			}
			if i > 0 && needs.Depth(l, root, name) != needs.Depth(l, root, order[user])+1 {
				t.Fatalf("%q is no need deeper than %q", name, order[user])
			}
			names, _ := needed(l, name)
			for _, need := range names {
				if !slices.Contains(order, need) {
					t.Fatalf("%q needs %q, which is not in %q", name, need, order)
				}
			}
		}
	}
	if told < 400 {
		t.Fatalf("only %d orders were told", told)
	}
}

// R3

func TestWhatIsHandedInStays(t *testing.T) {
	l := append(make([]api.Lib, 0, 8), list("a: b c x; b: d y; c: d a; d:")...)
	l[0].Needed = append(make([]string, 0, 8), l[0].Needed...)
	needs.Order(l, "a")
	needs.Order(l[1:], "b")
	needs.Missing(l, "a")
	needs.Depth(l, "a", "d")
	needs.Round(l, "a")
	want := list("a: b c x; b: d y; c: d a; d:")
	for i, lib := range l {
		if lib.Name != want[i].Name || !slices.Equal(lib.Needed, want[i].Needed) {
			t.Fatalf("%v was handed in, and is %v", want[i], lib)
		}
	}
	if l[:8][4].Name != "" || l[0].Needed[:8][3] != "" {
		t.Fatal("something was put behind what was handed in")
	}
}

func TestWhatIsToldIsItsOwners(t *testing.T) {
	l := list("a: b c; b: d; c: d a; d:; e: x y")
	order, _ := needs.Order(l, "a")
	again, _ := needs.Order(l, "a")
	missing, more := needs.Missing(l, "e"), needs.Missing(l, "e")
	order[1], missing[0] = "z", "z"
	order, missing = append(order[:2], "w"), append(missing[:1], "w")
	if !slices.Equal(again, []string{"a", "b", "c", "d"}) || !slices.Equal(more, []string{"x", "y"}) {
		t.Fatal("what was told has changed")
	}
	l[0], l[4].Needed[0] = api.Lib{}, "q"
	if !slices.Equal(again, []string{"a", "b", "c", "d"}) || !slices.Equal(more, []string{"x", "y"}) || order[2] != "w" || missing[1] != "w" {
		t.Fatal("what was told goes with what was handed in")
	}
	l = list("a: b c; b: d; c: d a; d:; e: x y")
	tells(t, l, "a", "a", "b", "c", "d")
	lacks(t, l, "e", "x", "y")
}

// R4

func TestTheSameCallsHaveTheSameAnswers(t *testing.T) {
	g := draws(123)
	l := g.libs(60, 3, 30)
	_, missing := model(l, "n0")
	for range 200 {
		lacks(t, l, "n0", missing...)
	}
}

// P1

func TestNothingPanics(t *testing.T) {
	odd := [][]api.Lib{nil, {}, {{}}, {{}, {}}, {{Needed: []string{""}}}, {{Needed: []string{"", "", "a"}}, {Name: "a", Needed: []string{}}}, make([]api.Lib, 100)}
	for _, l := range odd {
		for _, root := range []string{"", "a", "\x00", "\xff"} {
			alike(t, l, root, "", "a", "\x00", "\xff")
		}
	}
	if got := needs.Depth(nil, "", strings.Repeat("n", math.MaxUint16)); got != -1 {
		t.Fatalf("Depth of nothing: %d", got)
	}
}
