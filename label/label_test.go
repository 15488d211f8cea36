package label_test

import (
	"math"
	"slices"
	"testing"

	"plimsoll/api"
	"plimsoll/label"
)

const full = math.MaxUint64

var (
	bottom = api.Label{Level: 0, Cats: 0, Integ: 7}
	top    = api.Label{Level: 15, Cats: full, Integ: 0}
)

// wrong are no labels: the nearest ones, those that are one modulo 8, 16, 256 or 2^32, the utmost.
var wrong = []api.Label{
	{Level: -1}, {Level: 16}, {Integ: -1}, {Integ: 8},
	{Level: -1, Cats: full, Integ: 7}, {Level: 16, Cats: 1, Integ: 7}, {Level: 15, Cats: 1, Integ: 8}, {Level: 15, Integ: -1},
	{Level: -1, Integ: -1}, {Level: 16, Integ: 8}, {Level: -1, Integ: 8}, {Level: 16, Integ: -1},
	{Level: 256}, {Integ: 256}, {Level: -16}, {Integ: -8}, {Level: 1 << 32}, {Integ: 1 << 32}, {Level: -1 << 32}, {Integ: -1 << 32},
	{Level: math.MinInt}, {Level: math.MaxInt}, {Integ: math.MinInt}, {Integ: math.MaxInt},
	{Level: math.MaxInt, Cats: full, Integ: math.MinInt}, {Level: math.MinInt, Integ: math.MaxInt},
}

func grid(levels []int, sets []uint64, integs []int) []api.Label {
	var l []api.Label
	for _, level := range levels {
		for _, s := range sets {
			for _, integ := range integs {
				l = append(l, api.Label{Level: level, Cats: s, Integ: integ})
			}
		}
	}
	return l
}

// some labels, by the total order: the edges of each number, and what lies between.
func some() []api.Label {
	return grid([]int{0, 1, 2, 14, 15}, []uint64{0, 1, 2, 3, 6, full >> 1, 1 << 63, full}, []int{0, 1, 5, 6, 7})
}

// few are few enough to be gone through three at a time.
func few() []api.Label {
	return grid([]int{0, 7, 15}, []uint64{0, 1, 2, 3, 1<<63 | 1, full}, []int{0, 4, 7})
}

// liesUnder goes by the chapter's words, category by category: another way than the program's.
func liesUnder(a, b api.Label) bool {
	for i := range 64 {
		if a.Cats>>i%2 == 1 && b.Cats>>i%2 == 0 {
			return false
		}
	}
	return !(a.Level > b.Level) && !(a.Integ < b.Integ)
}

// P2.1

func TestRight(t *testing.T) {
	for level := -3; level < 20; level++ {
		for integ := -3; integ < 12; integ++ {
			for _, s := range []uint64{0, 1, 1 << 63, full} {
				a := api.Label{Level: level, Cats: s, Integ: integ}
				want := level >= 0 && level <= 15 && integ >= 0 && integ <= 7
				if label.Right(a) != want {
					t.Errorf("Right(%v): %t", a, !want)
				}
			}
		}
	}
	for _, a := range wrong {
		if label.Right(a) {
			t.Errorf("Right(%v): true", a)
		}
	}
}

func TestUnder(t *testing.T) {
	for _, a := range some() {
		for _, b := range some() {
			if got := label.Under(a, b); got != liesUnder(a, b) {
				t.Errorf("Under(%v, %v): %t", a, b, got)
			}
		}
	}
}

func TestUnderByOneNumberAlone(t *testing.T) {
	a := api.Label{Level: 3, Cats: 6, Integ: 5}
	for _, x := range []struct {
		b            api.Label
		under, above bool
	}{
		{api.Label{Level: 3, Cats: 6, Integ: 5}, true, true},
		{api.Label{Level: 4, Cats: 6, Integ: 5}, true, false},
		{api.Label{Level: 2, Cats: 6, Integ: 5}, false, true},
		{api.Label{Level: 3, Cats: 7, Integ: 5}, true, false},
		{api.Label{Level: 3, Cats: 2, Integ: 5}, false, true},
		{api.Label{Level: 3, Cats: 8, Integ: 5}, false, false},
		{api.Label{Level: 3, Cats: 6, Integ: 4}, true, false},
		{api.Label{Level: 3, Cats: 6, Integ: 6}, false, true},
		{api.Label{Level: 4, Cats: 6, Integ: 6}, false, false},
		{api.Label{Level: 4, Cats: 2, Integ: 5}, false, false},
	} {
		if got := label.Under(a, x.b); got != x.under {
			t.Errorf("Under(%v, %v): %t", a, x.b, got)
		}
		if got := label.Under(x.b, a); got != x.above {
			t.Errorf("Under(%v, %v): %t", x.b, a, got)
		}
	}
}

func TestUnderOfWhatIsNoLabel(t *testing.T) {
	for _, a := range wrong {
		for _, b := range append(few(), wrong...) {
			if label.Under(a, b) {
				t.Errorf("Under(%v, %v): true", a, b)
			}
			if label.Under(b, a) {
				t.Errorf("Under(%v, %v): true", b, a)
			}
		}
	}
}

func TestBottomAndTop(t *testing.T) {
	if label.Bottom() != bottom {
		t.Error("Bottom:", label.Bottom())
	}
	if label.Top() != top {
		t.Error("Top:", label.Top())
	}
}

// rank are the numbers of a label, in the order in which the total order asks for them.
func rank(a api.Label) [3]float64 {
	return [3]float64{float64(a.Level), float64(a.Cats), float64(a.Integ)}
}

func TestCompare(t *testing.T) {
	for _, x := range []struct {
		a, b api.Label
		want int
	}{
		{bottom, bottom, 0},
		{top, top, 0},
		{bottom, top, -1},
		{api.Label{}, bottom, -1},
		{api.Label{Level: 1}, api.Label{Level: 2}, -1},
		{api.Label{Level: 1, Cats: full, Integ: 7}, api.Label{Level: 2}, -1},
		{api.Label{Level: 1, Cats: 1, Integ: 7}, api.Label{Level: 1, Cats: 2}, -1},
		{api.Label{Cats: 1, Integ: 7}, api.Label{Cats: 2}, -1},
		{api.Label{Cats: 1}, api.Label{Cats: 1 << 63}, -1},
		{api.Label{Cats: full >> 1}, api.Label{Cats: 1 << 63}, -1},
		{api.Label{Cats: full - 1}, api.Label{Cats: full}, -1},
		{api.Label{Level: 3, Cats: 3, Integ: 1}, api.Label{Level: 3, Cats: 3, Integ: 2}, -1},
		{api.Label{Level: 9}, api.Label{Level: 10}, -1},
		// What is no label is held against others too.
		{api.Label{Level: -1}, api.Label{}, -1},
		{api.Label{Integ: -1}, api.Label{}, -1},
		{api.Label{Level: 15}, api.Label{Level: 16}, -1},
		{api.Label{Integ: 8}, api.Label{Integ: 9}, -1},
		{api.Label{Level: 16}, api.Label{Level: 16}, 0},
		{api.Label{Integ: -5}, api.Label{Integ: -5}, 0},
		{api.Label{Level: math.MinInt}, api.Label{Level: math.MaxInt}, -1},
		{api.Label{Integ: math.MinInt}, api.Label{Integ: math.MaxInt}, -1},
		{api.Label{Level: math.MinInt}, api.Label{Level: 1}, -1},
	} {
		if got := label.Compare(x.a, x.b); got != x.want {
			t.Errorf("Compare(%v, %v): %d", x.a, x.b, got)
		}
		if got := label.Compare(x.b, x.a); got != -x.want {
			t.Errorf("Compare(%v, %v): %d", x.b, x.a, got)
		}
	}
}

func TestCompareIsATotalOrder(t *testing.T) {
	// The sets of few, and the wrong numbers, are far enough apart to be told from each other as floats.
	l := append(few(), wrong...)
	for _, a := range l {
		for _, b := range l {
			x, y := rank(a), rank(b)
			if got := label.Compare(a, b); got != slices.Compare(x[:], y[:]) {
				t.Errorf("Compare(%v, %v): %d", a, b, got)
			}
			if a != b && label.Compare(a, b) == 0 {
				t.Errorf("Compare(%v, %v): 0, and they differ", a, b)
			}
		}
	}
}

func TestCompareSorts(t *testing.T) {
	l := some()
	want := slices.Clone(l)
	slices.Reverse(l)
	slices.SortFunc(l, label.Compare)
	if !slices.Equal(l, want) {
		t.Error("sorted by Compare, labels are in another order than level, categories, integrity")
	}
}

// P2.2

func TestJoinAndMeet(t *testing.T) {
	for _, x := range []struct{ a, b, join, meet api.Label }{
		{api.Label{Level: 3, Cats: 1, Integ: 5}, api.Label{Level: 2, Cats: 2, Integ: 6}, api.Label{Level: 3, Cats: 3, Integ: 5}, api.Label{Level: 2, Integ: 6}},
		{api.Label{Level: 3, Cats: 1, Integ: 6}, api.Label{Level: 2, Cats: 2, Integ: 5}, api.Label{Level: 3, Cats: 3, Integ: 5}, api.Label{Level: 2, Integ: 6}},
		{api.Label{Level: 1, Cats: 6, Integ: 0}, api.Label{Level: 1, Cats: 12, Integ: 7}, api.Label{Level: 1, Cats: 14, Integ: 0}, api.Label{Level: 1, Cats: 4, Integ: 7}},
		{bottom, top, top, bottom},
		{bottom, bottom, bottom, bottom},
		{top, top, top, top},
		{api.Label{}, api.Label{}, api.Label{}, api.Label{}},
		{api.Label{Cats: 1 << 63}, api.Label{Cats: full >> 1}, api.Label{Cats: full}, api.Label{}},
		{api.Label{Level: 15, Integ: 7}, api.Label{Cats: full}, top, bottom},
	} {
		for range 2 {
			if j, e := label.Join(x.a, x.b); j != x.join || e != api.OK {
				t.Errorf("Join(%v, %v): %v, %d", x.a, x.b, j, e)
			}
			if m, e := label.Meet(x.a, x.b); m != x.meet || e != api.OK {
				t.Errorf("Meet(%v, %v): %v, %d", x.a, x.b, m, e)
			}
			x.a, x.b = x.b, x.a
		}
	}
}

func TestJoinAndMeetRefuseWhatIsNoLabel(t *testing.T) {
	for _, a := range wrong {
		for _, b := range append([]api.Label{bottom, top, {Level: 3, Cats: 1, Integ: 5}}, wrong...) {
			for range 2 {
				if j, e := label.Join(a, b); j != (api.Label{}) || e != api.ErrLabel {
					t.Errorf("Join(%v, %v): %v, %d; want zero, ErrLabel", a, b, j, e)
				}
				if m, e := label.Meet(a, b); m != (api.Label{}) || e != api.ErrLabel {
					t.Errorf("Meet(%v, %v): %v, %d; want zero, ErrLabel", a, b, m, e)
				}
				a, b = b, a
			}
		}
	}
}

func TestLeast(t *testing.T) {
	a := api.Label{Level: 3, Cats: 1, Integ: 5}
	b := api.Label{Level: 2, Cats: 2, Integ: 6}
	c := api.Label{Level: 1, Cats: 1 << 63, Integ: 7}
	for _, x := range []struct {
		l    []api.Label
		want api.Label
	}{
		{nil, bottom},
		{[]api.Label{}, bottom},
		{[]api.Label{bottom}, bottom},
		{[]api.Label{top}, top},
		{[]api.Label{{}}, api.Label{}},
		{[]api.Label{a}, a},
		{[]api.Label{a, a, a}, a},
		{[]api.Label{a, b}, api.Label{Level: 3, Cats: 3, Integ: 5}},
		{[]api.Label{b, c}, api.Label{Level: 2, Cats: 1<<63 | 2, Integ: 6}},
		{[]api.Label{c, b, a}, api.Label{Level: 3, Cats: 1<<63 | 3, Integ: 5}},
		{[]api.Label{top, a, bottom}, top},
		{some(), top},
		{slices.Repeat([]api.Label{a, b, c}, 50000), api.Label{Level: 3, Cats: 1<<63 | 3, Integ: 5}},
	} {
		if got, e := label.Least(x.l); got != x.want || e != api.OK {
			t.Errorf("Least of %d: %v, %d; want %v, OK", len(x.l), got, e, x.want)
		}
	}
}

func TestLeastRefusesWhatIsNoLabel(t *testing.T) {
	for _, w := range wrong {
		for _, l := range [][]api.Label{{w}, {w, w}, {w, bottom, top}, {bottom, w, top}, {bottom, top, w}, append(some(), w)} {
			if got, e := label.Least(l); got != (api.Label{}) || e != api.ErrLabel {
				t.Errorf("Least with %v: %v, %d; want zero, ErrLabel", w, got, e)
			}
		}
	}
}

func TestLeastOfALongList(t *testing.T) {
	l := slices.Repeat([]api.Label{{Level: 3, Cats: 1, Integ: 5}, bottom}, 100000)
	last := api.Label{Level: 4, Cats: 1 << 63, Integ: 2}
	if got, e := label.Least(append(l, last)); got != (api.Label{Level: 4, Cats: 1<<63 | 1, Integ: 2}) || e != api.OK {
		t.Errorf("Least with %v behind: %v, %d", last, got, e)
	}
	if got, e := label.Least(append(l, api.Label{Level: 16})); got != (api.Label{}) || e != api.ErrLabel {
		t.Errorf("Least with level 16 behind: %v, %d", got, e)
	}
}

// P2.3

func TestUnderIsAnOrder(t *testing.T) {
	l := few()
	for _, a := range l {
		if !label.Under(a, a) {
			t.Errorf("%v is not under it", a)
		}
		if !label.Under(label.Bottom(), a) || !label.Under(a, label.Top()) {
			t.Errorf("%v is not between the bottom and the top", a)
		}
		for _, b := range l {
			if !label.Under(a, b) {
				continue
			}
			if label.Under(b, a) && a != b {
				t.Errorf("%v and %v are under each other", a, b)
			}
			for _, c := range l {
				if label.Under(b, c) && !label.Under(a, c) {
					t.Errorf("%v, %v, %v: not transitive", a, b, c)
				}
			}
		}
	}
}

func TestJoinIsLeastAboveAndMeetGreatestBelow(t *testing.T) {
	l := few()
	for _, a := range l {
		for _, b := range l {
			j, e := label.Join(a, b)
			m, f := label.Meet(a, b)
			if e != api.OK || f != api.OK || !label.Right(j) || !label.Right(m) {
				t.Fatalf("%v, %v: join %v, %d; meet %v, %d", a, b, j, e, m, f)
			}
			if !label.Under(a, j) || !label.Under(b, j) {
				t.Errorf("%v and %v are not both under their join %v", a, b, j)
			}
			if !label.Under(m, a) || !label.Under(m, b) {
				t.Errorf("the meet %v is not under both %v and %v", m, a, b)
			}
			for _, c := range l {
				if label.Under(a, c) && label.Under(b, c) && !label.Under(j, c) {
					t.Errorf("%v is above %v and %v, not above their join %v", c, a, b, j)
				}
				if label.Under(c, a) && label.Under(c, b) && !label.Under(c, m) {
					t.Errorf("%v is under %v and %v, not under their meet %v", c, a, b, m)
				}
			}
		}
	}
}

type twoToOne func(a, b api.Label) (api.Label, api.Errno)

func (f twoToOne) must(t *testing.T, a, b api.Label) api.Label {
	t.Helper()
	c, e := f(a, b)
	if e != api.OK {
		t.Fatalf("of %v and %v: %d", a, b, e)
	}
	return c
}

func TestJoinsAndMeetsCanBeMadeInAnyOrder(t *testing.T) {
	l := few()
	for _, f := range []twoToOne{label.Join, label.Meet} {
		for _, a := range l {
			for _, b := range l {
				ab := f.must(t, a, b)
				if ab != f.must(t, b, a) {
					t.Errorf("%v and %v: the order of both matters", a, b)
				}
				for _, c := range l {
					if f.must(t, ab, c) != f.must(t, a, f.must(t, b, c)) {
						t.Errorf("%v, %v, %v: the order of making matters", a, b, c)
					}
				}
			}
		}
	}
}

func TestLeastIsTheJoinsInAnyOrder(t *testing.T) {
	l := few()
	for k := range l {
		part := []api.Label{l[k], l[(k*7+3)%len(l)], l[(k*5+1)%len(l)], l[(k*11+2)%len(l)]}
		want := label.Bottom()
		for _, a := range part {
			want = twoToOne(label.Join).must(t, want, a)
		}
		for range len(part) {
			part = append(part[1:], part[0])
			if got, e := label.Least(part); got != want || e != api.OK {
				t.Errorf("Least(%v): %v, %d; want %v", part, got, e, want)
			}
		}
	}
}

// R3

func TestWhatIsHandedInIsNotWrittenInto(t *testing.T) {
	for _, l := range [][]api.Label{{{Level: 3, Cats: 1, Integ: 5}, bottom, top}, {top, {Level: 16}, bottom}} {
		room := append(slices.Clone(l), api.Label{Level: 9}, api.Label{Integ: -4})
		want := slices.Clone(room)
		label.Least(room[:len(l)])
		if !slices.Equal(room, want) {
			t.Errorf("Least wrote: %v; was %v", room, want)
		}
	}
}

// R4

func TestAnswersHangOnArgumentsAlone(t *testing.T) {
	a := api.Label{Level: 3, Cats: 1, Integ: 5}
	for range 2 {
		if got, e := label.Least([]api.Label{top, {Level: 16}}); got != (api.Label{}) || e != api.ErrLabel {
			t.Error("Least of a wrong list:", got, e)
		}
		if got, e := label.Least([]api.Label{a}); got != a || e != api.OK {
			t.Error("Least behind a wrong one:", got, e)
		}
		if got, e := label.Join(a, bottom); got != a || e != api.OK {
			t.Error("Join behind a wrong one:", got, e)
		}
		if got, e := label.Meet(a, top); got != a || e != api.OK {
			t.Error("Meet behind a wrong one:", got, e)
		}
	}
}
