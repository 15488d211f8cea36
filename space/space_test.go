package space_test

import (
	"fmt"
	"maps"
	"math"
	"regexp"
	"slices"
	"strings"
	"testing"

	"plimsoll/api"
	"plimsoll/file"
	"plimsoll/ring"
	"plimsoll/space"
)

// long is a text of n bytes.
func long(n int) string {
	return strings.Repeat("x", n)
}

func fileOf(name, data string) api.Obj {
	return api.Obj{Name: name, Kind: api.KindFile, Data: data}
}

func ringOf(name string, max int, items ...string) api.Obj {
	return api.Obj{Name: name, Kind: api.KindRing, Ring: api.Ring{Max: max, L: items}}
}

// someNames rise.
func someNames() []string {
	return []string{".", "..", ".a", "0", "0.", "00", "9", "a", "a.", "a..", "a.b", "a0", "aa", "ab", "abc", "b", "exit.3", strings.Repeat("m", 19), strings.Repeat("m", 20), "z", strings.Repeat("z", 20)}
}

// noNames are too short, too long, or have one byte, or rune, that no name has: those beside a to z, 0 to 9 and the full stop, capitals, what folds to one of them, what is one modulo 256, what is no rune.
func noNames() []string {
	l := []string{"", long(21), long(22), long(256), long(257), long(276), long(1 << 16), long(1<<16 + 1), long(1 << 20)}
	for _, c := range []string{"`", "{", "/", ":", "-", ",", "_", " ", "\x00", "\n", "A", "Z", "M", "!", "*", "?", "\x7f", "\x80", "\xae", "\xe1", "\xff", "\xc3", "\u0061\u0301", "\u00e9", "\u00df", "\u017f", "\u212a", "\u0430", "\u0161", "\u012e", "\u0130", "\u0663", "\uff13", "\uff41", "\u3002", "\uff0e", "\u00b7", "\xed\xa0\x80", "\xf4\x90\x80\x80", "\xc1\xa1", "\ufffd", "\U0001d7ce"} {
		l = append(l, c, c+"a", "a"+c, "a"+c+"0", "."+c+".", long(19)+c)
	}
	return l
}

// filled is a space of n objects, files and rings by turns.
func filled(n int) []api.Obj {
	var l []api.Obj
	for i := range n {
		name := "n" + string(rune('a'+i))
		if i%2 == 0 {
			l = append(l, fileOf(name, long(i)))
		} else {
			l = append(l, ringOf(name, 9, "a", "bc"))
		}
	}
	return l
}

// twoOfEach are objects that work can be done with: some files, some rings, some of them full.
func twoOfEach() []api.Obj {
	return []api.Obj{fileOf("a", "abcd"), ringOf("b", 20, "ab", "", "c"), fileOf("c", ""), ringOf("d", 5, "abcd"), fileOf("e", long(1000)), ringOf("f", 0)}
}

// spaces are right ones, with what they cost.
func spaces() []struct {
	l    []api.Obj
	cost int
} {
	return []struct {
		l    []api.Obj
		cost int
	}{
		{nil, 0}, {[]api.Obj{}, 0},
		{[]api.Obj{fileOf("a", "abc")}, 14},
		{[]api.Obj{ringOf("b", 20)}, 31},
		{[]api.Obj{fileOf("a", "abc"), ringOf("b", 20)}, 45},
		{[]api.Obj{ringOf("b", 20, "", "a", long(16))}, 31},
		{[]api.Obj{fileOf("a", "")}, 11},
		{[]api.Obj{ringOf("a", 0)}, 11},
		{[]api.Obj{fileOf(strings.Repeat("z", 20), long(1000))}, 1030},
		{[]api.Obj{ringOf(strings.Repeat("0", 20), 2000, make([]string, 2000)...)}, 2030},
		{[]api.Obj{fileOf("a", "\x00\xff\xc3"), fileOf("b", "é")}, 27},
		{[]api.Obj{{Name: "a", Kind: api.KindFile, Ring: api.Ring{L: []string{}}}}, 11},
		{[]api.Obj{{Name: "a", Kind: api.KindFile, Ring: api.Ring{L: make([]string, 0, 9)}}}, 11},
		{[]api.Obj{{Name: "a", Kind: api.KindRing, Ring: api.Ring{Max: 7, L: []string{}}}}, 18},
		{[]api.Obj{fileOf(".", ""), fileOf("0", ""), fileOf("a", ""), fileOf("a.", ""), fileOf("aa", ""), fileOf("b", "")}, 68},
		{filled(20), 20*12 + (0+18)*10/2 + 10*9},
		{twoOfEach(), 6*11 + 4 + 20 + 5 + 1000},
	}
}

// noSpaces are such that each breaks one thing of a space's: how many objects, their order, one object's name, kind, data or ring.
func noSpaces() [][]api.Obj {
	a, b, c := fileOf("a", "x"), ringOf("b", 5, "y"), fileOf("c", "")
	all := [][]api.Obj{{b, a}, {a, c, b}, {b, a, c}, {a, a}, {a, b, b}, {a, fileOf("a", "other")}, {fileOf("b", ""), b}, {a, b, a}, {fileOf("aa", ""), a}, {fileOf("a0", ""), fileOf("a.", "")}, {a, fileOf(".", "")}, {a, fileOf("0", "")}, {fileOf("b", ""), fileOf("aaaa", "")}, {fileOf("10", ""), fileOf("1", "")}}
	wrong := []api.Obj{{}, {Name: "b"}, {Kind: api.KindFile}, {Kind: api.KindRing}}
	for _, kind := range []int{0, 3, 4, -1, -2, 257, 258, 1<<16 + 1, 1<<32 + 1, 1<<32 + 2, math.MinInt, math.MinInt + 1, math.MaxInt} {
		wrong = append(wrong, api.Obj{Name: "b", Kind: kind})
	}
	for _, name := range noNames() {
		wrong = append(wrong, fileOf(name, ""), ringOf(name, 5))
	}
	for _, n := range []int{1001, 1002, 1024, 2000, 1 << 16, 1<<16 + 1} {
		wrong = append(wrong, fileOf("b", long(n)))
	}
	for _, r := range []api.Ring{{Max: 1}, {Max: -1}, {Max: 2000}, {Max: 1 << 32}, {L: []string{""}}, {L: []string{"a"}}, {Max: 5, L: []string{"a"}}} {
		wrong = append(wrong, api.Obj{Name: "b", Kind: api.KindFile, Ring: r}, api.Obj{Name: "b", Kind: api.KindFile, Data: "x", Ring: r})
	}
	for _, max := range []int{-1, -2, 2001, 1 << 16, 1 << 32, 1<<32 + 5, math.MinInt, math.MaxInt} {
		wrong = append(wrong, ringOf("b", max), ringOf("b", max, "a"))
	}
	wrong = append(wrong, ringOf("b", 0, ""), ringOf("b", 1, "a"), ringOf("b", 5, "ab", "cd"), ringOf("b", 2000, long(201)), ringOf("b", 2000, make([]string, 2001)...))
	for _, data := range []string{"x", "\x00", long(1000), long(1001)} {
		wrong = append(wrong, api.Obj{Name: "b", Kind: api.KindRing, Data: data}, api.Obj{Name: "b", Kind: api.KindRing, Data: data, Ring: api.Ring{Max: 9, L: []string{"a"}}})
	}
	for _, o := range wrong {
		all = append(all, []api.Obj{o}, []api.Obj{a, o, c}, []api.Obj{a, o})
	}
	return append(all, filled(21), filled(22), make([]api.Obj, 21), make([]api.Obj, 1<<16), slices.Repeat([]api.Obj{a}, 20), slices.Repeat([]api.Obj{a}, 1<<16))
}

// same is asked ahead of what is held against it, so that a fault of the program's own Same is none of these tests'.
func same(a, b []api.Obj) bool {
	return slices.EqualFunc(a, b, func(x, y api.Obj) bool {
		return x.Name == y.Name && x.Kind == y.Kind && x.Data == y.Data && x.Ring.Max == y.Ring.Max && slices.Equal(x.Ring.L, y.Ring.L)
	})
}

// copied is another list like it, without spare room.
func copied(l []api.Obj) []api.Obj {
	made := make([]api.Obj, len(l))
	for i, o := range l {
		made[i] = o
		made[i].Ring.L = append(make([]string, 0, len(o.Ring.L)), o.Ring.L...)
	}
	return made
}

// show is as much of a list as is told of it; some are long.
func show(l []api.Obj) string {
	s := fmt.Sprintf("%#v", l[:min(len(l), 30)])
	return s[:min(len(s), 500)]
}

// replaced is the list with another object in place of one.
func replaced(l []api.Obj, i int, o api.Obj) []api.Obj {
	return slices.Replace(copied(l), i, i+1, o)
}

func wantSpace(t *testing.T, what string, l []api.Obj, e api.Errno, want []api.Obj) {
	t.Helper()
	if !same(l, want) || e != api.OK {
		t.Fatalf("%s: %s, %d; want %s, OK", what, show(l), e, show(want))
	}
}

func wantError(t *testing.T, what string, l []api.Obj, e api.Errno, want api.Errno) {
	t.Helper()
	if len(l) != 0 || e != want {
		t.Fatalf("%s: %s, %d; want nothing, %d", what, show(l), e, want)
	}
}

func wantText(t *testing.T, what string, s string, e api.Errno, want string, wantE api.Errno) {
	t.Helper()
	if s != want || e != wantE {
		t.Fatalf("%s: %.50q, %d; want %.50q, %d", what, s, e, want, wantE)
	}
}

// The chapter's example

func TestExample(t *testing.T) {
	a, b := fileOf("a", "abc"), ringOf("b", 20)
	for _, x := range []struct {
		l    []api.Obj
		want int
	}{{[]api.Obj{a}, 14}, {[]api.Obj{b}, 31}, {[]api.Obj{a, b}, 45}} {
		if n := space.Cost(x.l); n != x.want {
			t.Errorf("%s costs %d; want %d", show(x.l), n, x.want)
		}
	}
}

// P10.1

func TestIsName(t *testing.T) {
	for _, s := range someNames() {
		if !space.IsName(s) {
			t.Errorf("IsName of %.50q: false", s)
		}
	}
	for _, s := range noNames() {
		if space.IsName(s) {
			t.Errorf("IsName of %.50q: true", s)
		}
	}
	for n := range 300 {
		if space.IsName(long(n)) != (n >= 1 && n <= 20) {
			t.Errorf("IsName of %d bytes: %t", n, space.IsName(long(n)))
		}
	}
}

// TestIsNameOfEach goes through all bytes, all pairs of them, and all runes.
func TestIsNameOfEach(t *testing.T) {
	may := regexp.MustCompile(`\A[a-z0-9.]{1,20}\z`)
	hold := func(s string) {
		if space.IsName(s) != may.MatchString(s) {
			t.Fatalf("IsName of %.50q: %t", s, space.IsName(s))
		}
	}
	for a := range 256 {
		hold(string([]byte{byte(a)}))
		for b := range 256 {
			hold(string([]byte{byte(a), byte(b)}))
		}
	}
	for c := range rune(0x110000) {
		hold(string(c))
	}
}

func TestRightAndCost(t *testing.T) {
	for i, x := range spaces() {
		if !space.Right(x.l) {
			t.Errorf("Right of space %d: false", i)
		}
		if n := space.Cost(x.l); n != x.cost {
			t.Errorf("Cost of space %d: %d; want %d", i, n, x.cost)
		}
	}
	for i, l := range noSpaces() {
		if space.Right(l) {
			t.Errorf("Right of no space, %d: true", i)
		}
		if n := space.Cost(l); n != 0 {
			t.Errorf("Cost of no space, %d: %d; want 0", i, n)
		}
	}
}

func TestRightByHowMany(t *testing.T) {
	for n := range 26 {
		if space.Right(filled(n)) != (n <= 20) {
			t.Errorf("Right of %d objects: %t", n, space.Right(filled(n)))
		}
	}
}

// TestRightOfTwo holds all pairs of names against each other: of any two one order is right, if they differ.
func TestRightOfTwo(t *testing.T) {
	names := someNames()
	for i, a := range names {
		for j, b := range names {
			if got := space.Right([]api.Obj{fileOf(a, ""), ringOf(b, 1)}); got != (i < j) {
				t.Errorf("Right of %.50q and %.50q: %t", a, b, got)
			}
		}
	}
}

func TestRightBySize(t *testing.T) {
	for n := range 2100 {
		if got := space.Right([]api.Obj{fileOf("a", long(n))}); got != (n <= 1000) {
			t.Fatalf("Right of a file of %d bytes: %t", n, got)
		}
		if got := space.Right([]api.Obj{ringOf("a", n)}); got != (n <= 2000) {
			t.Fatalf("Right of a ring of %d: %t", n, got)
		}
		items := make([]string, n)
		if got := space.Right([]api.Obj{ringOf("a", 1000, items...)}); got != (n <= 1000) {
			t.Fatalf("Right of a ring of 1000 with %d items: %t", n, got)
		}
	}
}

func TestFind(t *testing.T) {
	for _, x := range spaces() {
		for i, o := range x.l {
			if n := space.Find(x.l, o.Name); n != i {
				t.Errorf("Find of %.50q: %d; want %d", o.Name, n, i)
			}
		}
		for _, name := range append(noNames(), "nowhere", "zz", "nz") {
			if n := space.Find(x.l, name); n != -1 {
				t.Errorf("Find of %.50q: %d; want -1", name, n)
			}
		}
	}
	if n := space.Find(nil, ""); n != -1 {
		t.Errorf("Find in nothing: %d; want -1", n)
	}
}

// TestFindInNoSpace: it's the first one of that name, whatever else there is, and whatever the name.
func TestFindInNoSpace(t *testing.T) {
	l := []api.Obj{{Name: "c"}, {Name: "a", Kind: 7}, {}, {Name: "c", Kind: 1}, {Name: "A"}, {Name: ""}, {Name: "a"}, {Name: long(99)}, {Name: "\xff"}}
	for name, want := range map[string]int{"c": 0, "a": 1, "": 2, "A": 4, long(99): 7, "\xff": 8, "b": -1, "C": -1, "\xfe": -1, "\ufffd": -1, "a\x00": -1} {
		if n := space.Find(l, name); n != want {
			t.Errorf("Find of %.50q: %d; want %d", name, n, want)
		}
	}
	for i, l := range noSpaces() {
		for _, o := range l[:min(len(l), 30)] {
			want := slices.IndexFunc(l, func(other api.Obj) bool { return other.Name == o.Name })
			if n := space.Find(l, o.Name); n != want {
				t.Fatalf("Find in no space, %d: %d; want %d", i, n, want)
			}
		}
	}
}

func TestNames(t *testing.T) {
	var all [][]api.Obj
	for _, x := range spaces() {
		all = append(all, x.l)
	}
	for i, l := range append(all, noSpaces()...) {
		names := space.Names(l)
		if len(names) != len(l) {
			t.Fatalf("Names of %d: %d of them; want %d", i, len(names), len(l))
		}
		for j, o := range l {
			if names[j] != o.Name {
				t.Fatalf("Names of %d: %.50q at %d; want %.50q", i, names[j], j, o.Name)
			}
		}
	}
}

func TestSame(t *testing.T) {
	a := []api.Obj{fileOf("a", "x"), ringOf("b", 9, "y", "z")}
	others := [][]api.Obj{nil, {}, a[:1], a[1:], {a[1], a[0]}, {a[0], a[0]}, append(copied(a), api.Obj{}), append([]api.Obj{{}}, a...), append(copied(a), a[1])}
	for _, o := range []api.Obj{{}, fileOf("b", "x"), fileOf("", "x"), fileOf("A", "x"), fileOf("a\x00", "x"), fileOf("a", ""), fileOf("a", "y"), fileOf("a", "xx"), fileOf("a", "X"), {Name: "a", Data: "x"}, {Name: "a", Kind: 2, Data: "x"}, {Name: "a", Kind: 1<<32 + 1, Data: "x"}, {Name: "a", Kind: -1, Data: "x"}, {Name: "a", Kind: 1, Data: "x", Ring: api.Ring{Max: 1}}, {Name: "a", Kind: 1, Data: "x", Ring: api.Ring{L: []string{""}}}} {
		others = append(others, replaced(a, 0, o))
	}
	for _, o := range []api.Obj{ringOf("c", 9, "y", "z"), ringOf("b", 8, "y", "z"), ringOf("b", -9, "y", "z"), ringOf("b", 9+1<<32, "y", "z"), ringOf("b", 9), ringOf("b", 9, "y"), ringOf("b", 9, "z"), ringOf("b", 9, "z", "y"), ringOf("b", 9, "y", "y"), ringOf("b", 9, "y", "z", ""), ringOf("b", 9, "yz"), {Name: "b", Kind: 1, Ring: a[1].Ring}, {Name: "b", Kind: 2, Data: "x", Ring: a[1].Ring}} {
		others = append(others, replaced(a, 1, o))
	}
	for i, b := range others {
		if space.Same(a, b) || space.Same(b, a) {
			t.Errorf("Same of other %d: true", i)
		}
	}
	var all [][]api.Obj
	for _, x := range spaces() {
		all = append(all, x.l)
	}
	for i, l := range append(all, noSpaces()...) {
		if !space.Same(l, l) || !space.Same(l, copied(l)) || !space.Same(copied(l), l) {
			t.Errorf("Same of %d and another one like it: false", i)
		}
	}
	if !space.Same(nil, []api.Obj{}) || !space.Same([]api.Obj{ringOf("a", 1)}, []api.Obj{ringOf("a", 1, []string{}...)}) || !space.Same([]api.Obj{{Ring: api.Ring{L: []string{}}}}, []api.Obj{{}}) {
		t.Error("Same of nil lists and empty ones: false")
	}
}

// TestErrPartFirst: nothing is done with no space, whatever is wrong beside.
func TestErrPartFirst(t *testing.T) {
	for i, l := range noSpaces() {
		for _, name := range []string{"a", "b", "nowhere", "", "A"} {
			for _, n := range []int{0, 1, -1, 5000} {
				made, e := space.Make(l, 100000*n, name, n, n)
				wantError(t, "Make", made, e, api.ErrPart)
				made, e = space.Make(l, 100000, name, api.KindRing, n)
				wantError(t, "Make", made, e, api.ErrPart)
				made, e = space.Write(l, 100000*n, name, n, "x")
				wantError(t, "Write", made, e, api.ErrPart)
				made, e = space.Cut(l, 100000*n, name, n)
				wantError(t, "Cut", made, e, api.ErrPart)
				s, e := space.Read(l, name, n, n)
				wantText(t, "Read", s, e, "", api.ErrPart)
			}
			made, e := space.Drop(l, name)
			wantError(t, "Drop", made, e, api.ErrPart)
			for _, item := range []string{"", "x", long(201)} {
				made, e = space.Put(l, name, item)
				wantError(t, "Put", made, e, api.ErrPart)
			}
			s, made, e := space.Take(l, name)
			wantText(t, "Take", s, e, "", api.ErrPart)
			wantError(t, "Take", made, e, api.ErrPart)
		}
		if t.Failed() {
			t.Fatal("no space", i)
		}
	}
}

// P10.2

func TestMake(t *testing.T) {
	names := someNames()
	for i, name := range names {
		for _, l := range [][]api.Obj{nil, {fileOf(names[(i+1)%21], "x")}, filled(19), twoOfEach()} {
			if space.Find(l, name) >= 0 {
				continue
			}
			for _, x := range []struct{ kind, max int }{{1, 0}, {2, 0}, {2, 1}, {2, 2000}} {
				o := api.Obj{Name: name, Kind: x.kind, Ring: api.Ring{Max: x.max}}
				want := append(copied(l), o)
				slices.SortFunc(want, func(a, b api.Obj) int { return strings.Compare(a.Name, b.Name) })
				made, e := space.Make(l, 100000, name, x.kind, x.max)
				wantSpace(t, "Make", made, e, want)
				if !space.Right(made) || space.Cost(made) != space.Cost(l)+10+len(name)+x.max {
					t.Fatalf("Make of %.50q: %t, %d", name, space.Right(made), space.Cost(made))
				}
			}
		}
	}
}

func TestMakeByMax(t *testing.T) {
	l := []api.Obj{fileOf("a", "")}
	for max := -3; max < 2100; max++ {
		made, e := space.Make(l, 100000, "b", api.KindRing, max)
		if max < 0 || max > 2000 {
			wantError(t, "Make of no ring", made, e, api.ErrArg)
		} else {
			wantSpace(t, "Make of a ring", made, e, append(copied(l), ringOf("b", max)))
		}
		made, e = space.Make(l, 100000, "b", api.KindFile, max)
		if max != 0 {
			wantError(t, "Make of a file with a max", made, e, api.ErrArg)
		} else {
			wantSpace(t, "Make of a file", made, e, append(copied(l), fileOf("b", "")))
		}
	}
	for _, max := range []int{1 << 16, 1 << 32, 1<<32 + 5, -1 << 32, math.MinInt, math.MinInt + 1, math.MaxInt} {
		for kind := 1; kind <= 2; kind++ {
			made, e := space.Make(l, 100000, "b", kind, max)
			wantError(t, "Make by no max", made, e, api.ErrArg)
		}
	}
}

// TestMakeByQuota: what costs just the quota is let be; one byte more is not, nor anything below 0.
func TestMakeByQuota(t *testing.T) {
	for _, x := range spaces() {
		if len(x.l) == 20 {
			continue
		}
		for _, y := range []struct {
			name      string
			kind, max int
		}{{"q", 1, 0}, {"q", 2, 0}, {"q", 2, 7}, {strings.Repeat("q", 20), 2, 2000}} {
			cost := x.cost + 10 + len(y.name) + y.max
			for _, quota := range []int{cost, cost + 1, 100000, math.MaxInt} {
				made, e := space.Make(x.l, quota, y.name, y.kind, y.max)
				if e != api.OK || space.Cost(made) != cost || len(made) != len(x.l)+1 {
					t.Fatalf("Make within %d: %s, %d", quota, show(made), e)
				}
			}
			for _, quota := range []int{cost - 1, cost - 11, x.cost, 0, -1, -100000, math.MinInt, math.MinInt + 1} {
				if quota < cost {
					made, e := space.Make(x.l, quota, y.name, y.kind, y.max)
					wantError(t, "Make above the quota", made, e, api.ErrRoom)
				}
			}
		}
	}
}

func TestMakeOfTooMany(t *testing.T) {
	var l []api.Obj
	for i := range 20 {
		made, e := space.Make(l, 100000, "n"+string(rune('z'-i)), api.KindFile, 0)
		if e != api.OK || len(made) != i+1 || !space.Right(made) {
			t.Fatalf("Make of object %d: %s, %d", i, show(made), e)
		}
		l = made
	}
	for _, name := range []string{"a", "nf0", "z"} {
		for kind := 1; kind <= 2; kind++ {
			made, e := space.Make(l, 100000, name, kind, 0)
			wantError(t, "Make of the 21st", made, e, api.ErrRoom)
		}
	}
	l, e := space.Drop(l, "np")
	if e != api.OK {
		t.Fatal("Drop:", e)
	}
	l, e = space.Make(l, 100000, "z", api.KindRing, 9)
	if e != api.OK || len(l) != 20 {
		t.Fatalf("Make behind Drop: %s, %d", show(l), e)
	}
}

// TestMakeInOrder: of all that is wrong what the promise names first is told.
func TestMakeInOrder(t *testing.T) {
	full := filled(20)
	for _, name := range noNames() {
		for _, x := range []struct{ quota, kind, max int }{{100000, 1, 0}, {100000, 9, 0}, {100000, 1, -1}, {-1, 1, 0}, {-1, 0, -1}, {0, 2, 2001}} {
			for _, l := range [][]api.Obj{nil, full} {
				made, e := space.Make(l, x.quota, name, x.kind, x.max)
				wantError(t, "Make of no name", made, e, api.ErrName)
			}
		}
	}
	for _, kind := range []int{0, 3, 4, -1, -2, 257, 258, 1<<32 + 1, 1<<32 + 2, math.MinInt, math.MaxInt} {
		for _, name := range []string{"new", "na"} {
			for _, max := range []int{0, 1, -1, 2001} {
				for _, quota := range []int{100000, -1} {
					made, e := space.Make(full, quota, name, kind, max)
					wantError(t, "Make of no kind", made, e, api.ErrKind)
				}
			}
		}
	}
	for _, o := range full {
		for _, x := range []struct{ quota, kind, max int }{{100000, 1, 0}, {100000, 2, 5}, {100000, 1, 1}, {100000, 2, 2001}, {100000, 2, -1}, {-1, 1, 0}, {-1, 2, 2001}} {
			made, e := space.Make(full, x.quota, o.Name, x.kind, x.max)
			wantError(t, "Make of what is there", made, e, api.ErrThere)
		}
	}
	for _, x := range []struct{ kind, max int }{{1, 1}, {1, -1}, {1, math.MaxInt}, {2, 2001}, {2, -1}, {2, math.MinInt}} {
		for _, l := range [][]api.Obj{nil, full} {
			for _, quota := range []int{100000, 0, -1} {
				made, e := space.Make(l, quota, "new", x.kind, x.max)
				wantError(t, "Make by no max", made, e, api.ErrArg)
			}
		}
	}
}

func TestDrop(t *testing.T) {
	for _, x := range spaces() {
		for i, o := range x.l {
			made, e := space.Drop(x.l, o.Name)
			wantSpace(t, "Drop", made, e, slices.Delete(copied(x.l), i, i+1))
		}
		for _, name := range append(noNames(), "nowhere", "nz") {
			made, e := space.Drop(x.l, name)
			wantError(t, "Drop of none", made, e, api.ErrNone)
		}
	}
}

// TestNoneAndKind: who asks for what is not there, or of the other kind, is told so ahead of all else.
func TestNoneAndKind(t *testing.T) {
	for _, x := range spaces() {
		for _, name := range append(noNames(), "nowhere", "nz") {
			wantFileError(t, x.l, name, api.ErrNone)
			wantRingError(t, x.l, name, api.ErrNone)
		}
		for _, o := range x.l {
			if o.Kind == api.KindFile {
				wantRingError(t, x.l, o.Name, api.ErrKind)
			} else {
				wantFileError(t, x.l, o.Name, api.ErrKind)
			}
		}
	}
}

// wantFileError asks for what is right of a file, and for what is not.
func wantFileError(t *testing.T, l []api.Obj, name string, want api.Errno) {
	t.Helper()
	for _, n := range []int{0, 1, -1, 1001} {
		for _, quota := range []int{100000, -1} {
			made, e := space.Write(l, quota, name, n, "x")
			wantError(t, "Write", made, e, want)
			made, e = space.Cut(l, quota, name, n)
			wantError(t, "Cut", made, e, want)
		}
		s, e := space.Read(l, name, n, n)
		wantText(t, "Read", s, e, "", want)
	}
}

// wantRingError asks for what is right of a ring, and for what is not.
func wantRingError(t *testing.T, l []api.Obj, name string, want api.Errno) {
	t.Helper()
	for _, item := range []string{"", "x", long(200), long(201)} {
		made, e := space.Put(l, name, item)
		wantError(t, "Put", made, e, want)
	}
	s, made, e := space.Take(l, name)
	wantText(t, "Take", s, e, "", want)
	wantError(t, "Take", made, e, want)
}

// wantData holds what was made of a file against what the layer of files makes of it, and the quota.
func wantData(t *testing.T, what string, made []api.Obj, e api.Errno, l []api.Obj, i, quota int, data string, wrong api.Errno) {
	t.Helper()
	was, cost := space.Cost(l), space.Cost(l)-len(l[i].Data)+len(data)
	switch {
	case wrong != api.OK:
		wantError(t, what+" of what is no file", made, e, wrong)
	case cost > quota && cost > was:
		wantError(t, what+" above the quota", made, e, api.ErrRoom)
	default:
		o := l[i]
		o.Data = data
		wantSpace(t, what, made, e, replaced(l, i, o))
	}
}

// quotas are those about what a space costs, and the utmost.
func quotas(cost int) []int {
	return []int{0, -1, cost - 2, cost - 1, cost, cost + 1, cost + 2, cost + 3, cost + 996, 100000, math.MinInt, math.MaxInt}
}

func TestWriteReadCut(t *testing.T) {
	numbers := []int{0, 1, 2, 3, 4, 5, 999, 1000, 1001, -1, 1 << 32, math.MinInt, math.MaxInt}
	for _, x := range spaces() {
		for i, o := range x.l {
			if o.Kind != api.KindFile {
				continue
			}
			for _, at := range numbers {
				for _, quota := range quotas(x.cost) {
					for _, s := range []string{"", "x", "xyz", "\x00\xff", long(999), long(1000), long(1001)} {
						data, wrong := file.Write(o.Data, at, s)
						made, e := space.Write(x.l, quota, o.Name, at, s)
						wantData(t, "Write", made, e, x.l, i, quota, data, wrong)
					}
					data, wrong := file.Cut(o.Data, at)
					made, e := space.Cut(x.l, quota, o.Name, at)
					wantData(t, "Cut", made, e, x.l, i, quota, data, wrong)
				}
				for _, n := range numbers {
					data, wrong := file.Read(o.Data, at, n)
					s, e := space.Read(x.l, o.Name, at, n)
					wantText(t, "Read", s, e, data, wrong)
				}
			}
		}
	}
}

// TestAboveTheQuota: a space that costs more than the quota may still be written to, and cut, if it costs no more then than it did.
func TestAboveTheQuota(t *testing.T) {
	l := []api.Obj{fileOf("a", "abcd"), ringOf("b", 20)}
	for _, quota := range []int{46, 45, 11, 10, 0, -1, math.MinInt} {
		made, e := space.Write(l, quota, "a", 2, "xy")
		wantSpace(t, "Write of as many bytes", made, e, replaced(l, 0, fileOf("a", "abxy")))
		made, e = space.Write(l, quota, "a", 4, "")
		wantSpace(t, "Write of no bytes", made, e, l)
		made, e = space.Write(l, quota, "a", 4, "x")
		wantError(t, "Write of one byte more", made, e, api.ErrRoom)
		made, e = space.Cut(l, quota, "a", 4)
		wantSpace(t, "Cut to as many bytes", made, e, l)
		made, e = space.Cut(l, quota, "a", 3)
		wantSpace(t, "Cut to fewer bytes", made, e, replaced(l, 0, fileOf("a", "abc")))
		made, e = space.Cut(l, quota, "a", 5)
		wantError(t, "Cut to one byte more", made, e, api.ErrRoom)
		made, e = space.Write(l, quota, "a", 5, "x")
		wantError(t, "Write behind the end", made, e, api.ErrFile)
		made, e = space.Cut(l, quota, "a", 1001)
		wantError(t, "Cut to too many bytes", made, e, api.ErrFile)
	}
	made, e := space.Write(l, 47, "a", 4, "x")
	wantSpace(t, "Write up to the quota", made, e, replaced(l, 0, fileOf("a", "abcdx")))
	made, e = space.Cut(l, 47, "a", 5)
	wantSpace(t, "Cut up to the quota", made, e, replaced(l, 0, fileOf("a", "abcd\x00")))
	made, e = space.Cut(l, 47, "a", 6)
	wantError(t, "Cut above the quota", made, e, api.ErrRoom)
}

func TestPut(t *testing.T) {
	for _, x := range spaces() {
		for i, o := range x.l {
			if o.Kind != api.KindRing {
				continue
			}
			for _, item := range []string{"", "a", "ab", "\x00\xff", long(3), long(199), long(200), long(201), long(202), long(2000), long(1 << 16)} {
				r, wrong := ring.Put(o.Ring, item)
				made, e := space.Put(x.l, o.Name, item)
				if wrong != api.OK {
					wantError(t, "Put of what can't be", made, e, wrong)
					continue
				}
				wantSpace(t, "Put", made, e, replaced(x.l, i, api.Obj{Name: o.Name, Kind: o.Kind, Ring: r}))
			}
		}
	}
	l := []api.Obj{ringOf("b", 5, "a")}
	made, e := space.Put(l, "b", "bc")
	wantSpace(t, "Put of what just fits", made, e, []api.Obj{ringOf("b", 5, "a", "bc")})
	made, e = space.Put(l, "b", "bcd")
	wantError(t, "Put of what takes too much", made, e, api.ErrFull)
	made, e = space.Put(l, "b", long(201))
	wantError(t, "Put of no item", made, e, api.ErrArg)
}

func TestTake(t *testing.T) {
	for _, x := range spaces() {
		for i, o := range x.l {
			if o.Kind != api.KindRing {
				continue
			}
			item, made, e := space.Take(x.l, o.Name)
			if len(o.Ring.L) == 0 {
				wantText(t, "Take of none", item, e, "", api.ErrEmpty)
				wantError(t, "Take of none", made, e, api.ErrEmpty)
				continue
			}
			wantText(t, "Take", item, e, o.Ring.L[0], api.OK)
			wantSpace(t, "Take", made, e, replaced(x.l, i, ringOf(o.Name, o.Ring.Max, o.Ring.L[1:]...)))
		}
	}
}

// P10.3

// model is a space as a map from names to objects, and what it costs.
type model struct {
	of   map[string]api.Obj
	cost int
}

func (m model) list() []api.Obj {
	var l []api.Obj
	for _, name := range slices.Sorted(maps.Keys(m.of)) {
		l = append(l, m.of[name])
	}
	return l
}

// set puts an object in, if it keeps to the quota, or costs no more than the one ahead did.
func (m *model) set(o api.Obj, quota int) api.Errno {
	was, there := m.of[o.Name]
	more := len(o.Data) - len(was.Data) + o.Ring.Max - was.Ring.Max
	if !there {
		more += 10 + len(o.Name)
	}
	if !there && len(m.of) == 20 || more > 0 && m.cost+more > quota {
		return api.ErrRoom
	}
	m.of[o.Name], m.cost = o, m.cost+more
	return api.OK
}

func (m *model) make(quota int, name string, kind, max int) api.Errno {
	_, there := m.of[name]
	switch {
	case !regexp.MustCompile(`\A[a-z0-9.]{1,20}\z`).MatchString(name):
		return api.ErrName
	case kind != 1 && kind != 2:
		return api.ErrKind
	case there:
		return api.ErrThere
	case max < 0 || kind == 1 && max > 0 || max > 2000:
		return api.ErrArg
	}
	return m.set(api.Obj{Name: name, Kind: kind, Ring: api.Ring{Max: max}}, quota)
}

func (m *model) drop(name string) api.Errno {
	o, there := m.of[name]
	if !there {
		return api.ErrNone
	}
	m.cost -= 10 + len(name) + len(o.Data) + o.Ring.Max
	delete(m.of, name)
	return api.OK
}

func (m *model) get(name string, kind int) (api.Obj, api.Errno) {
	o, there := m.of[name]
	switch {
	case !there:
		return o, api.ErrNone
	case o.Kind != kind:
		return o, api.ErrKind
	}
	return o, api.OK
}

func (m *model) write(quota int, name string, at int, s string) api.Errno {
	o, e := m.get(name, 1)
	if e != api.OK {
		return e
	}
	if o.Data, e = file.Write(o.Data, at, s); e != api.OK {
		return e
	}
	return m.set(o, quota)
}

func (m *model) cut(quota int, name string, n int) api.Errno {
	o, e := m.get(name, 1)
	if e != api.OK {
		return e
	}
	if o.Data, e = file.Cut(o.Data, n); e != api.OK {
		return e
	}
	return m.set(o, quota)
}

func (m *model) put(name, item string) api.Errno {
	o, e := m.get(name, 2)
	if e != api.OK {
		return e
	}
	if o.Ring, e = ring.Put(o.Ring, item); e != api.OK {
		return e
	}
	return m.set(o, 0)
}

func (m *model) take(name string) (string, api.Errno) {
	o, e := m.get(name, 2)
	if e != api.OK {
		return "", e
	}
	item, r, e := ring.Take(o.Ring)
	if e != api.OK {
		return "", e
	}
	o.Ring = r
	return item, m.set(o, 0)
}

// draw is where a run's next steps come from: the same ones each time.
type draw uint64

func (d *draw) below(n int) int {
	*d = *d*6364136223846793005 + 1442695040888963407
	return int(uint64(*d) >> 33 % uint64(n))
}

// step does one thing with both, and tells what the space becomes, and both errors.
func step(m *model, l []api.Obj, d *draw, quota int) ([]api.Obj, api.Errno, api.Errno) {
	names := append(someNames(), "c", "d", "e", "f", "g", "A", "")
	name := names[d.below(len(names))]
	n, text := d.below(14)-1, long(d.below(12))
	switch d.below(9) {
	case 0, 1, 2:
		kind := 1 + d.below(2)
		max := (kind - 1) * n * 5
		made, e := space.Make(l, quota, name, kind, max)
		return made, e, m.make(quota, name, kind, max)
	case 3:
		made, e := space.Drop(l, name)
		return made, e, m.drop(name)
	case 4, 5:
		made, e := space.Write(l, quota, name, n, text)
		return made, e, m.write(quota, name, n, text)
	case 6:
		made, e := space.Cut(l, quota, name, n)
		return made, e, m.cut(quota, name, n)
	case 7:
		made, e := space.Put(l, name, text)
		return made, e, m.put(name, text)
	}
	item, made, e := space.Take(l, name)
	want, f := m.take(name)
	if item != want {
		e = -1
	}
	return made, e, f
}

// TestLongRuns holds a space against a model, step by step; what is made within a quota costs no more than that.
func TestLongRuns(t *testing.T) {
	told := map[api.Errno]int{}
	for run, quota := range []int{0, 11, 50, 100, 200, 400, 1000, 100000} {
		m, d := &model{of: map[string]api.Obj{}}, draw(run)
		var l []api.Obj
		for range 3000 {
			made, e, want := step(m, l, &d, quota)
			told[want]++
			if e != want {
				t.Fatalf("quota %d: error %d; want %d", quota, e, want)
			}
			if e != api.OK {
				wantError(t, "a step", made, e, want)
			} else {
				l = made
			}
			if !same(l, m.list()) || space.Cost(l) != m.cost || !space.Right(l) {
				t.Fatalf("quota %d: %s, %d; want %s, %d", quota, show(l), space.Cost(l), show(m.list()), m.cost)
			}
			if space.Cost(l) > quota {
				t.Fatalf("quota %d: cost %d", quota, space.Cost(l))
			}
		}
	}
	for _, e := range []api.Errno{api.OK, api.ErrName, api.ErrThere, api.ErrArg, api.ErrRoom, api.ErrNone, api.ErrKind, api.ErrFile, api.ErrFull, api.ErrEmpty} {
		if told[e] == 0 {
			t.Errorf("no step told %d", e)
		}
	}
}

// TestLongRunsAboveTheQuota: where the quota falls below the cost, the cost falls or stays till it is within it again.
func TestLongRunsAboveTheQuota(t *testing.T) {
	m, d := &model{of: map[string]api.Obj{}}, draw(99)
	var l []api.Obj
	for i := range 20000 {
		quota := []int{300, 40, 150, 0}[i/50%4]
		was := space.Cost(l)
		made, e, want := step(m, l, &d, quota)
		if e != want {
			t.Fatalf("quota %d: error %d; want %d", quota, e, want)
		}
		if e != api.OK {
			continue
		}
		l = made
		if !same(l, m.list()) || space.Cost(l) > max(quota, was) {
			t.Fatalf("quota %d: %s, %d; want %s", quota, show(l), space.Cost(l), show(m.list()))
		}
	}
}

// TestOthersStayAsTheyAre: what names one object leaves all others, and what can be read and taken there.
func TestOthersStayAsTheyAre(t *testing.T) {
	l := twoOfEach()
	for _, o := range l {
		for i, made := range changes(l, o.Name) {
			others := slices.DeleteFunc(copied(l), func(x api.Obj) bool { return x.Name == o.Name })
			left := slices.DeleteFunc(copied(made), func(x api.Obj) bool { return x.Name == o.Name })
			if !same(left, others) {
				t.Errorf("change %d of %.50q: %s beside it; want %s", i, o.Name, show(left), show(others))
			}
		}
	}
}

// changes are what comes of all that can be done with that name; what can't be is left out.
func changes(l []api.Obj, name string) [][]api.Obj {
	var all [][]api.Obj
	keep := func(made []api.Obj, e api.Errno) {
		if e == api.OK {
			all = append(all, made)
		}
	}
	keep(space.Make(l, 100000, name, api.KindFile, 0))
	keep(space.Make(l, 100000, name, api.KindRing, 9))
	keep(space.Drop(l, name))
	keep(space.Write(l, 100000, name, 0, "new"))
	keep(space.Write(l, 100000, name, 0, ""))
	keep(space.Cut(l, 100000, name, 1))
	keep(space.Put(l, name, "new"))
	_, made, e := space.Take(l, name)
	keep(made, e)
	return all
}

// R3, R4

// roomy is a list with spare room behind its objects, and behind each ring's items, and in it what must stay; the second list is all of it.
func roomy(l []api.Obj) ([]api.Obj, []api.Obj) {
	all := append(copied(l), fileOf("spare", "room"), ringOf("spare", 9, "room"))
	for i, o := range all {
		items := append(slices.Clone(o.Ring.L), "spare", "room")
		all[i].Ring.L = items[:len(o.Ring.L)]
	}
	return all[:len(l)], all
}

// deep is a copy of all that a list has, spare room too.
func deep(l []api.Obj) []api.Obj {
	made := slices.Clone(l[:cap(l)])
	for i, o := range made {
		made[i].Ring.L = slices.Clone(o.Ring.L[:cap(o.Ring.L)])
	}
	return made
}

// scribble writes over all that a list has, spare room too.
func scribble(l []api.Obj) {
	l = l[:cap(l)]
	for i := range l {
		items := l[i].Ring.L[:cap(l[i].Ring.L)]
		for j := range items {
			items[j] = "scribble"
		}
	}
	for i := range l {
		l[i] = fileOf("scribble", "")
	}
}

// listsToKeep are such as a space's answers might share memory with.
func listsToKeep() [][]api.Obj {
	return [][]api.Obj{nil, {fileOf("a", "abcd")}, {ringOf("a", 20, "x", "y", "z")}, twoOfEach(), filled(19), filled(20)}
}

// answers are what comes of all that can be done with each name there is, and with those there are not.
func answers(l []api.Obj) [][]api.Obj {
	var all [][]api.Obj
	for _, name := range append(space.Names(l), "0", "na0", "zz") {
		all = append(all, changes(l, name)...)
	}
	return all
}

func TestNothingHandedInIsWritten(t *testing.T) {
	for i, l := range listsToKeep() {
		handed, all := roomy(l)
		was := deep(all)
		answers(handed)
		space.Right(handed)
		space.Cost(handed)
		space.Names(handed)
		space.Same(handed, handed)
		for _, o := range handed {
			space.Find(handed, o.Name)
			space.Read(handed, o.Name, 0, 1)
			space.Put(handed, o.Name, long(201))
			space.Write(handed, 0, o.Name, 0, long(1001))
		}
		if !same(deep(all), was) {
			t.Errorf("list %d was written into: %s; want %s", i, show(deep(all)), show(was))
		}
	}
}

// TestAnswersAreNewMemory: what is written into an answer, or its spare room, is not seen in what was handed in, nor in another answer.
func TestAnswersAreNewMemory(t *testing.T) {
	for i, l := range listsToKeep() {
		handed, all := roomy(l)
		was := deep(all)
		got := answers(handed)
		for j, made := range got {
			others := make([][]api.Obj, len(got))
			for k, other := range got {
				others[k] = deep(other)
			}
			scribble(made)
			for k, other := range got {
				if k != j && !same(deep(other), others[k]) {
					t.Fatalf("list %d: answer %d shares memory with answer %d", i, k, j)
				}
			}
		}
		if !same(deep(all), was) {
			t.Errorf("list %d: an answer shares memory with what was handed in", i)
		}
	}
}

// TestNoTwoListsOfAnAnswerShare: not even where what was handed in did.
func TestNoTwoListsOfAnAnswerShare(t *testing.T) {
	items := []string{"x", "y", "z"}
	l := []api.Obj{ringOf("a", 20, items...), ringOf("b", 20, items...), ringOf("c", 20, items[:2]...), fileOf("d", "abcd")}
	for i, made := range answers(l) {
		for j := range made {
			one := made[j].Ring.L[:cap(made[j].Ring.L)]
			was := deep(made)
			for k := range one {
				one[k] = "scribble"
			}
			now := deep(made)
			was[j], now[j] = api.Obj{}, api.Obj{}
			if !same(now, was) {
				t.Fatalf("answer %d: the list of object %d shares memory with another one", i, j)
			}
		}
	}
	if !slices.Equal(items, []string{"x", "y", "z"}) {
		t.Errorf("an answer shares memory with what was handed in: %.50q", items)
	}
}

func TestNothingHandedInIsKept(t *testing.T) {
	for i, l := range listsToKeep() {
		handed, all := roomy(l)
		got, names := answers(handed), space.Names(handed)
		want, wantNames := answers(copied(l)), space.Names(copied(l))
		scribble(all)
		for j := range got {
			if !same(got[j], want[j]) {
				t.Fatalf("list %d: answer %d shares memory with what was handed in", i, j)
			}
		}
		if !slices.Equal(names, wantNames) {
			t.Errorf("list %d: names %.50q; want %.50q", i, names, wantNames)
		}
	}
}

// TestSameAgain: nothing is kept from call to call, neither what was done nor what was wrong.
func TestSameAgain(t *testing.T) {
	l := twoOfEach()
	first := answers(l)
	for range 3 {
		for _, other := range noSpaces()[:20] {
			answers(other)
		}
		for i, made := range answers(l) {
			wantSpace(t, "again", made, api.OK, first[i])
		}
	}
}

// TestNilAndEmptyAreOne: lists of objects, and those of their rings.
func TestNilAndEmptyAreOne(t *testing.T) {
	for _, l := range [][]api.Obj{nil, {}, make([]api.Obj, 0, 5)} {
		if !space.Right(l) || space.Cost(l) != 0 || len(space.Names(l)) != 0 {
			t.Errorf("an empty space: %t, %d, %.50q", space.Right(l), space.Cost(l), space.Names(l))
		}
		made, e := space.Make(l, 11, "a", api.KindFile, 0)
		wantSpace(t, "Make", made, e, []api.Obj{fileOf("a", "")})
		made, e = space.Drop(made, "a")
		wantSpace(t, "Drop", made, e, nil)
		made, e = space.Drop(l, "a")
		wantError(t, "Drop of none", made, e, api.ErrNone)
	}
	for _, items := range [][]string{nil, {}, make([]string, 0, 5)} {
		made, e := space.Put([]api.Obj{ringOf("a", 5, items...)}, "a", "x")
		wantSpace(t, "Put", made, e, []api.Obj{ringOf("a", 5, "x")})
		l := []api.Obj{{Name: "a", Kind: api.KindFile, Ring: api.Ring{L: items}}}
		made, e = space.Write(l, 100, "a", 0, "x")
		wantSpace(t, "Write", made, e, []api.Obj{fileOf("a", "x")})
	}
}
