package cats_test

import (
	"math"
	"math/bits"
	"slices"
	"testing"

	"plimsoll/api"
	"plimsoll/cats"
)

const full = math.MaxUint64

// none are numbers that are no categories: the nearest ones, those that are one modulo 64, 256 or 2^32, the utmost.
var none = []int{-1, -2, -63, -64, -65, -256, 64, 65, 127, 128, 256, 1 << 32, -1 << 32, 1<<32 + 5, math.MinInt, math.MinInt + 1, math.MaxInt}

// someSets are the edges, each single category, each but one, and sets without a pattern.
func someSets() []uint64 {
	sets := []uint64{0, 1, 3, 33, full, full >> 1, full - 1, 1 << 63, 1<<63 | 1, 0xffffffff, 0xffffffff << 32, 0x5555555555555555, 0xaaaaaaaaaaaaaaaa}
	for i := range 64 {
		sets = append(sets, 1<<i, full^1<<i)
	}
	x := uint64(0x9e3779b97f4a7c15)
	for range 100 {
		x = bits.RotateLeft64(x*0xd1342543de82ef95+1, 23)
		sets = append(sets, x)
	}
	return sets
}

// digits are the places of a set's binary digits that are 1, by halving: another way than the program's.
func digits(s uint64) []int {
	var l []int
	for i := 0; s > 0; i++ {
		if s%2 == 1 {
			l = append(l, i)
		}
		s /= 2
	}
	return l
}

func allCategories() []int {
	var l []int
	for i := range 64 {
		l = append(l, i)
	}
	return l
}

// P1.1

func TestOf(t *testing.T) {
	backwards := allCategories()
	slices.Reverse(backwards)
	for _, x := range []struct {
		l []int
		s uint64
	}{
		{nil, 0},
		{[]int{}, 0},
		{[]int{0}, 1},
		{[]int{63}, 1 << 63},
		{[]int{5, 0, 5}, 33},
		{[]int{0, 63}, 1<<63 | 1},
		{[]int{63, 0}, 1<<63 | 1},
		{[]int{31, 32, 33}, 7 << 31},
		{[]int{7, 7, 7, 7}, 128},
		{[]int{0, 0}, 1},
		{[]int{63, 63, 63}, 1 << 63},
		{allCategories(), full},
		{backwards, full},
		{append(allCategories(), backwards...), full},
	} {
		if s, e := cats.Of(x.l); s != x.s || e != api.OK {
			t.Errorf("Of(%v): %d, %d; want %d, OK", x.l, s, e, x.s)
		}
	}
}

func TestOfEachCategory(t *testing.T) {
	p := uint64(1)
	for i := range 64 {
		if s, e := cats.Of([]int{i}); s != p || e != api.OK {
			t.Errorf("Of(%d): %d, %d; want %d, OK", i, s, e, p)
		}
		p *= 2
	}
}

func TestOfRefusesWhatIsNoCategory(t *testing.T) {
	for _, i := range none {
		for _, l := range [][]int{{i}, {i, i}, {i, 1, 2}, {1, i, 2}, {1, 2, i}, append(allCategories(), i)} {
			if s, e := cats.Of(l); s != 0 || e != api.ErrCats {
				t.Errorf("Of(%v): %d, %d; want 0, ErrCats", l, s, e)
			}
		}
	}
}

func TestOfLongList(t *testing.T) {
	l := slices.Repeat([]int{5, 0, 63}, 100000)
	if s, e := cats.Of(l); s != 1<<63|33 || e != api.OK {
		t.Errorf("Of: %d, %d", s, e)
	}
	if s, e := cats.Of(append(l, 64)); s != 0 || e != api.ErrCats {
		t.Errorf("Of with 64 behind: %d, %d", s, e)
	}
}

func TestList(t *testing.T) {
	for _, s := range someSets() {
		if l := cats.List(s); !slices.Equal(l, digits(s)) {
			t.Errorf("List(%d): %v; want %v", s, l, digits(s))
		}
	}
	if l := cats.List(full); !slices.Equal(l, allCategories()) {
		t.Errorf("List of all: %v", l)
	}
	if l := cats.List(0); len(l) != 0 {
		t.Errorf("List of none: %v", l)
	}
}

func TestHas(t *testing.T) {
	for _, s := range someSets() {
		in := digits(s)
		for i := -3; i < 70; i++ {
			if got := cats.Has(s, i); got != slices.Contains(in, i) {
				t.Errorf("Has(%d, %d): %t", s, i, got)
			}
		}
		for _, i := range none {
			if cats.Has(s, i) {
				t.Errorf("Has(%d, %d): true of no category", s, i)
			}
		}
	}
}

func TestWithAndWithout(t *testing.T) {
	for _, s := range someSets() {
		for i := range 64 {
			out := slices.DeleteFunc(digits(s), func(j int) bool { return j == i })
			in := append(slices.Clone(out), i)
			slices.Sort(in)
			with, e := cats.With(s, i)
			if e != api.OK || !slices.Equal(digits(with), in) {
				t.Errorf("With(%d, %d): %d, %d", s, i, with, e)
			}
			without, e := cats.Without(s, i)
			if e != api.OK || !slices.Equal(digits(without), out) {
				t.Errorf("Without(%d, %d): %d, %d", s, i, without, e)
			}
		}
	}
}

func TestWithAndWithoutRefuseWhatIsNoCategory(t *testing.T) {
	for _, s := range []uint64{0, 1, 7, 1 << 63, full} {
		for _, i := range none {
			if r, e := cats.With(s, i); r != 0 || e != api.ErrCats {
				t.Errorf("With(%d, %d): %d, %d; want 0, ErrCats", s, i, r, e)
			}
			if r, e := cats.Without(s, i); r != 0 || e != api.ErrCats {
				t.Errorf("Without(%d, %d): %d, %d; want 0, ErrCats", s, i, r, e)
			}
		}
	}
}

// P1.2

func TestSubAndLess(t *testing.T) {
	sets := someSets()
	for _, a := range sets {
		for _, b := range sets {
			var rest []int
			inB := digits(b)
			for _, i := range digits(a) {
				if !slices.Contains(inB, i) {
					rest = append(rest, i)
				}
			}
			if got := cats.Sub(a, b); got != (len(rest) == 0) {
				t.Errorf("Sub(%d, %d): %t; a has %v beside", a, b, got, rest)
			}
			if got := cats.Less(a, b); !slices.Equal(digits(got), rest) {
				t.Errorf("Less(%d, %d): %d; want %v", a, b, got, rest)
			}
		}
	}
}

func TestSubAtTheEdges(t *testing.T) {
	for _, x := range []struct {
		a, b uint64
		sub  bool
	}{
		{0, 0, true}, {0, full, true}, {full, full, true}, {full, 0, false},
		{1 << 63, full, true}, {1 << 63, full >> 1, false}, {1, full - 1, false}, {5, 7, true}, {7, 5, false},
	} {
		if got := cats.Sub(x.a, x.b); got != x.sub {
			t.Errorf("Sub(%d, %d): %t", x.a, x.b, got)
		}
	}
}

func TestCount(t *testing.T) {
	for _, s := range someSets() {
		if n := cats.Count(s); n != len(digits(s)) {
			t.Errorf("Count(%d): %d; want %d", s, n, len(digits(s)))
		}
	}
	if cats.Count(0) != 0 || cats.Count(full) != 64 || cats.Count(1<<63) != 1 {
		t.Error("Count at the edges:", cats.Count(0), cats.Count(full), cats.Count(1<<63))
	}
}

// P1.3

func TestSetsAndRisingListsAreOneToOne(t *testing.T) {
	lists := map[uint64][]int{}
	for _, s := range someSets() {
		l := cats.List(s)
		for k := 1; k < len(l); k++ {
			if l[k-1] >= l[k] {
				t.Errorf("List(%d) does not rise: %v", s, l)
			}
		}
		if back, e := cats.Of(l); back != s || e != api.OK {
			t.Errorf("Of(List(%d)): %d, %d", s, back, e)
		}
		lists[s] = l
	}
	for s, l := range lists {
		for r, m := range lists {
			if s != r && slices.Equal(l, m) {
				t.Errorf("%d and %d have one list: %v", s, r, l)
			}
		}
	}
}

func TestRisingListsComeBack(t *testing.T) {
	for _, l := range [][]int{nil, {0}, {63}, {0, 63}, {1, 2, 3}, {0, 5}, {7, 31, 32, 62}, allCategories(), allCategories()[1:], allCategories()[:63]} {
		s, e := cats.Of(l)
		if e != api.OK || !slices.Equal(cats.List(s), l) {
			t.Errorf("List(Of(%v)): %v, %d", l, cats.List(s), e)
		}
	}
}

// R3

func TestWhatIsHandedInIsNotWrittenInto(t *testing.T) {
	for _, l := range [][]int{{5, 0, 5, 63}, {3, 2, 64, 1}} {
		room := append(slices.Clone(l), 9, 8, 7)
		want := slices.Clone(room)
		cats.Of(room[:len(l)])
		if !slices.Equal(room, want) {
			t.Errorf("Of wrote: %v; was %v", room, want)
		}
	}
}

func TestWhatIsAnsweredIsNewMemory(t *testing.T) {
	for _, s := range []uint64{0, 33, full} {
		a, b := cats.List(s), cats.List(s)
		a, b = a[:cap(a)], b[:cap(b)]
		want := slices.Clone(b)
		for k := range a {
			a[k] = -9
		}
		if !slices.Equal(b, want) {
			t.Errorf("two lists of %d share memory", s)
		}
		if !slices.Equal(cats.List(s), digits(s)) {
			t.Errorf("List(%d) tells what was written into an earlier answer", s)
		}
	}
}

// R4

func TestAnswersHangOnArgumentsAlone(t *testing.T) {
	for range 2 {
		if s, e := cats.Of([]int{1, 64}); s != 0 || e != api.ErrCats {
			t.Error("Of a wrong list:", s, e)
		}
		if s, e := cats.Of([]int{2}); s != 4 || e != api.OK {
			t.Error("Of behind a wrong one:", s, e)
		}
		if s, e := cats.With(1, 1); s != 3 || e != api.OK {
			t.Error("With behind a wrong one:", s, e)
		}
	}
}
