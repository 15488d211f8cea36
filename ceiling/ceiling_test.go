package ceiling_test

import (
	"math"
	"slices"
	"testing"

	"plimsoll/api"
	"plimsoll/ceiling"
	"plimsoll/label"
)

const full = math.MaxUint64

var (
	bottom = api.Label{Level: 0, Cats: 0, Integ: 7}
	top    = api.Label{Level: 15, Cats: full, Integ: 0}
	none   = api.Label{}
)

// wrong are no labels: the nearest ones, those that are one modulo 8, 16, 256 or 2^32, the utmost.
var wrong = []api.Label{
	{Level: -1}, {Level: 16}, {Integ: -1}, {Integ: 8},
	{Level: -1, Cats: full, Integ: 7}, {Level: 16, Cats: 1, Integ: 7}, {Level: 15, Cats: 1, Integ: 8}, {Level: 15, Integ: -1},
	{Level: -1, Integ: -1}, {Level: 16, Integ: 8}, {Level: 256}, {Integ: 256}, {Level: -16}, {Integ: -8},
	{Level: 1 << 32}, {Integ: 1 << 32}, {Level: -1 << 32}, {Integ: -1 << 32},
	{Level: math.MinInt}, {Level: math.MaxInt}, {Integ: math.MinInt}, {Integ: math.MaxInt},
	{Level: math.MaxInt, Cats: full, Integ: math.MinInt}, {Level: math.MinInt, Integ: math.MaxInt},
}

func grid(levels []int, sets []uint64, integs []int) []api.Label {
	var l []api.Label
	for _, level := range levels {
		for _, s := range sets {
			for _, integ := range integs {
				l = append(l, api.Label{Level: level, Cats: s, Integ: integ})
			}
		}
	}
	return l
}

// few are few enough to be gone through three at a time.
func few() []api.Label {
	return grid([]int{0, 7, 15}, []uint64{0, 1, 2, 3, 1<<63 | 1, full}, []int{0, 4, 7})
}

// small are all labels of few levels, categories and integrities, with the edges of each number.
func small() []api.Label {
	return grid([]int{0, 1, 2, 15}, []uint64{0, 1, 2, 3, 4, 5, 6, 7}, []int{0, 1, 6, 7})
}

// facts are what a label says, each as one thing that is or is not: it is higher than a level, has a category, is less sound than an integrity.
func facts(a api.Label) [86]bool {
	var f [86]bool
	for i := range 15 {
		f[i] = a.Level > i
	}
	for i := range 64 {
		f[15+i] = a.Cats>>i%2 == 1
	}
	for i := range 7 {
		f[79+i] = a.Integ <= i
	}
	return f
}

// named is the label that says these facts, and no more than it must beside them: who is higher than a level is so than all below it.
func named(f [86]bool) api.Label {
	a := api.Label{Integ: 7}
	for i := range f {
		switch {
		case !f[i]:
		case i < 15:
			a.Level = i + 1
		case i < 79:
			a.Cats += 1 << (i - 15)
		case a.Integ > i-79:
			a.Integ = i - 79
		}
	}
	return a
}

// The model: a label is what it says. It is under one that says as much, and the join says what either does.

func right(a api.Label) bool {
	return a.Level >= 0 && a.Level <= 15 && a.Integ >= 0 && a.Integ <= 7
}

func lies(a, b api.Label) bool {
	x, y := facts(a), facts(b)
	for i := range x {
		if x[i] && !y[i] {
			return false
		}
	}
	return true
}

func both(a, b api.Label) api.Label {
	x, y := facts(a), facts(b)
	for i := range x {
		x[i] = x[i] || y[i]
	}
	return named(x)
}

func lacks(a, b api.Label) api.Label {
	x, y := facts(a), facts(b)
	for i := range x {
		y[i] = y[i] && !x[i]
	}
	return named(y)
}

func floats(cur, a, high api.Label) (api.Label, api.Errno) {
	switch {
	case !right(cur) || !right(a) || !right(high):
		return none, api.ErrLabel
	case !lies(cur, high) || !lies(both(cur, a), high):
		return none, api.ErrCeiling
	}
	return both(cur, a), api.OK
}

func goes(cur api.Label, l []api.Label, high api.Label) (api.Label, int, api.Errno) {
	if !right(cur) || !right(high) || slices.ContainsFunc(l, func(a api.Label) bool { return !right(a) }) {
		return none, 0, api.ErrLabel
	}
	for i, a := range l {
		next, e := floats(cur, a, high)
		if e != api.OK {
			return cur, i, e
		}
		cur = next
	}
	return cur, len(l), api.OK
}

func isFloat(t *testing.T, cur, a, high, want api.Label, wantE api.Errno) {
	t.Helper()
	if got, e := ceiling.Float(cur, a, high); got != want || e != wantE {
		t.Fatalf("Float(%v, %v, %v): %v, %d; want %v, %d", cur, a, high, got, e, want, wantE)
	}
}

func isPath(t *testing.T, cur api.Label, l []api.Label, high, want api.Label, wantN int, wantE api.Errno) {
	t.Helper()
	if got, n, e := ceiling.Path(cur, l, high); got != want || n != wantN || e != wantE {
		t.Fatalf("Path(%v, %d labels, %v): %v, %d, %d; want %v, %d, %d", cur, len(l), high, got, n, e, want, wantN, wantE)
	}
}

func isSend(t *testing.T, cur, a api.Label, want bool, wantE api.Errno) {
	t.Helper()
	if got, e := ceiling.Send(cur, a); got != want || e != wantE {
		t.Fatalf("Send(%v, %v): %t, %d; want %t, %d", cur, a, got, e, want, wantE)
	}
}

func isGain(t *testing.T, cur, a, want api.Label, wantE api.Errno) {
	t.Helper()
	if got, e := ceiling.Gain(cur, a); got != want || e != wantE {
		t.Fatalf("Gain(%v, %v): %v, %d; want %v, %d", cur, a, got, e, want, wantE)
	}
}

// P12.1

func TestTheChaptersExample(t *testing.T) {
	isFloat(t, bottom, api.Label{Level: 2, Cats: 2, Integ: 5}, api.Label{Level: 3, Cats: 6, Integ: 0}, api.Label{Level: 2, Cats: 2, Integ: 5}, api.OK)
	isFloat(t, bottom, api.Label{Level: 2, Cats: 2, Integ: 0}, api.Label{Level: 3, Cats: 6, Integ: 0}, api.Label{Level: 2, Cats: 2, Integ: 0}, api.OK)
	isFloat(t, bottom, api.Label{Level: 2, Cats: 2, Integ: 7}, api.Label{Level: 3, Cats: 6, Integ: 7}, api.Label{Level: 2, Cats: 2, Integ: 7}, api.OK)
}

func TestFloat(t *testing.T) {
	cur := api.Label{Level: 3, Cats: 3, Integ: 5}
	high := api.Label{Level: 4, Cats: 7, Integ: 4}
	for _, x := range []struct {
		a, high, want api.Label
		e             api.Errno
	}{
		{cur, cur, cur, api.OK},
		{bottom, cur, cur, api.OK},
		{bottom, top, cur, api.OK},
		{top, top, top, api.OK},
		{high, high, high, api.OK},
		{api.Label{Level: 4, Cats: 3, Integ: 5}, high, api.Label{Level: 4, Cats: 3, Integ: 5}, api.OK},
		{api.Label{Level: 0, Cats: 4, Integ: 7}, high, api.Label{Level: 3, Cats: 7, Integ: 5}, api.OK},
		{api.Label{Level: 0, Cats: 0, Integ: 4}, high, api.Label{Level: 3, Cats: 3, Integ: 4}, api.OK},
		{api.Label{Level: 1, Cats: 1, Integ: 6}, high, cur, api.OK},
		// Above the ceiling by one number alone, by the label or by oneself.
		{api.Label{Level: 5, Cats: 0, Integ: 7}, high, none, api.ErrCeiling},
		{api.Label{Level: 0, Cats: 8, Integ: 7}, high, none, api.ErrCeiling},
		{api.Label{Level: 0, Cats: 1 << 63, Integ: 7}, high, none, api.ErrCeiling},
		{api.Label{Level: 0, Cats: 0, Integ: 3}, high, none, api.ErrCeiling},
		{bottom, api.Label{Level: 2, Cats: 3, Integ: 5}, none, api.ErrCeiling},
		{bottom, api.Label{Level: 3, Cats: 1, Integ: 5}, none, api.ErrCeiling},
		{bottom, api.Label{Level: 3, Cats: 3, Integ: 6}, none, api.ErrCeiling},
		{cur, bottom, none, api.ErrCeiling},
		{bottom, bottom, none, api.ErrCeiling},
		{top, high, none, api.ErrCeiling},
	} {
		isFloat(t, cur, x.a, x.high, x.want, x.e)
	}
	isFloat(t, bottom, bottom, bottom, bottom, api.OK)
	isFloat(t, top, top, top, top, api.OK)
	isFloat(t, top, bottom, top, top, api.OK)
	isFloat(t, none, none, none, none, api.OK)
	isFloat(t, top, bottom, api.Label{Level: 15, Cats: full, Integ: 1}, none, api.ErrCeiling)
}

func TestFloatIsTheModels(t *testing.T) {
	for _, cur := range few() {
		for _, a := range few() {
			for _, high := range few() {
				want, e := floats(cur, a, high)
				isFloat(t, cur, a, high, want, e)
			}
		}
	}
}

func TestFloatRefusesWhatIsNoLabel(t *testing.T) {
	others := append([]api.Label{bottom, top, {Level: 3, Cats: 1, Integ: 5}}, wrong...)
	for _, w := range wrong {
		for _, a := range others {
			for _, b := range others {
				isFloat(t, w, a, b, none, api.ErrLabel)
				isFloat(t, a, w, b, none, api.ErrLabel)
				isFloat(t, a, b, w, none, api.ErrLabel)
			}
		}
	}
}

func TestPath(t *testing.T) {
	cur := api.Label{Level: 1, Cats: 1, Integ: 6}
	high := api.Label{Level: 3, Cats: 7, Integ: 4}
	ways := []api.Label{{Level: 2, Cats: 0, Integ: 7}, {Level: 0, Cats: 2, Integ: 7}, {Level: 0, Cats: 0, Integ: 4}}
	ends := []api.Label{cur, {Level: 2, Cats: 1, Integ: 6}, {Level: 2, Cats: 3, Integ: 6}, {Level: 2, Cats: 3, Integ: 4}}
	for n := range ends {
		isPath(t, cur, ways[:n], high, ends[n], n, api.OK)
	}
	for _, beyond := range []api.Label{{Level: 4, Integ: 7}, {Cats: 8, Integ: 7}, {Integ: 3}, top} {
		for n := range ends {
			l := slices.Concat(ways[:n], []api.Label{beyond}, ways[n:])
			isPath(t, cur, l, high, ends[n], n, api.ErrCeiling)
			isPath(t, cur, l[:n+1], high, ends[n], n, api.ErrCeiling)
			isPath(t, cur, append(l, beyond), high, ends[n], n, api.ErrCeiling)
		}
	}
	isPath(t, cur, []api.Label{bottom, cur, bottom}, cur, cur, 3, api.OK)
	isPath(t, bottom, []api.Label{top}, top, top, 1, api.OK)
	isPath(t, bottom, few(), top, top, len(few()), api.OK)
	isPath(t, bottom, []api.Label{{Level: 15, Cats: full, Integ: 1}, top, bottom}, api.Label{Level: 15, Cats: full, Integ: 1}, api.Label{Level: 15, Cats: full, Integ: 1}, 1, api.ErrCeiling)
}

// Who is not under one's ceiling floats to no label; without one to float to nothing stops one.
func TestPathOfWhoIsAboveTheCeiling(t *testing.T) {
	for _, cur := range few() {
		for _, high := range few() {
			isPath(t, cur, nil, high, cur, 0, api.OK)
			isPath(t, cur, []api.Label{}, high, cur, 0, api.OK)
			if !lies(cur, high) {
				isPath(t, cur, []api.Label{bottom}, high, cur, 0, api.ErrCeiling)
				isPath(t, cur, []api.Label{cur, high}, high, cur, 0, api.ErrCeiling)
			}
		}
	}
}

// A label that is none counts wherever it is, behind the place where one is stopped, too.
func TestPathRefusesWhatIsNoLabel(t *testing.T) {
	cur := api.Label{Level: 1, Cats: 1, Integ: 6}
	for _, w := range wrong {
		for _, l := range [][]api.Label{{w}, {w, w}, {w, cur}, {cur, w}, {bottom, cur, w}, {top, w}, {top, top, w, bottom}, {w, top}, append(few(), w)} {
			isPath(t, cur, l, cur, none, 0, api.ErrLabel)
			isPath(t, cur, l, top, none, 0, api.ErrLabel)
			isPath(t, top, l, bottom, none, 0, api.ErrLabel)
		}
		for _, l := range [][]api.Label{nil, {}, {cur}, {top}, {bottom, w}, {w}} {
			isPath(t, w, l, top, none, 0, api.ErrLabel)
			isPath(t, cur, l, w, none, 0, api.ErrLabel)
			isPath(t, w, l, w, none, 0, api.ErrLabel)
		}
	}
}

// draw yields numbers that look unruly, and are the same each time.
type draw uint64

func (d *draw) of(n int) int {
	*d = *d*6364136223846793005 + 1442695040888963407
	return int(uint64(*d) >> 33 % uint64(n))
}

func (d *draw) label() api.Label {
	l := small()
	return l[d.of(len(l))]
}

func (d *draw) list(n int) []api.Label {
	var l []api.Label
	for range n {
		l = append(l, d.label())
	}
	return l
}

func TestPathIsTheModels(t *testing.T) {
	d := draw(12)
	ends := map[api.Errno]int{}
	for range 20000 {
		cur, l, high := d.label(), d.list(d.of(6)), d.label()
		switch d.of(8) {
		case 0:
			if len(l) > 0 {
				l[d.of(len(l))] = wrong[d.of(len(wrong))]
			}
		case 1, 2, 3:
			high = both(cur, high)
		case 4, 5:
			high = both(both(cur, high), d.label())
		}
		want, n, e := goes(cur, l, high)
		isPath(t, cur, l, high, want, n, e)
		ends[e]++
	}
	for _, e := range []api.Errno{api.OK, api.ErrCeiling, api.ErrLabel} {
		if ends[e] < 500 {
			t.Errorf("%d of the paths end with %d", ends[e], e)
		}
	}
}

func TestPathOfManyLabels(t *testing.T) {
	a := api.Label{Level: 3, Cats: 1, Integ: 5}
	high := api.Label{Level: 3, Cats: 1<<63 | 1, Integ: 5}
	l := slices.Repeat([]api.Label{a, bottom}, 100000)
	isPath(t, bottom, l, high, a, 200000, api.OK)
	isPath(t, bottom, append(slices.Clone(l), api.Label{Cats: 1 << 63, Integ: 7}), high, high, 200001, api.OK)
	isPath(t, bottom, append(slices.Clone(l), api.Label{Integ: 4}), high, a, 200000, api.ErrCeiling)
	isPath(t, bottom, append(slices.Clone(l), api.Label{Integ: 8}), high, none, 0, api.ErrLabel)
}

// P12.2

func TestReadsAndWrites(t *testing.T) {
	cur := api.Label{Level: 3, Cats: 6, Integ: 5}
	for _, x := range []struct {
		a             api.Label
		reads, writes bool
	}{
		{cur, true, true},
		{bottom, true, false},
		{top, false, false},
		{api.Label{Level: 2, Cats: 6, Integ: 5}, true, false},
		{api.Label{Level: 4, Cats: 6, Integ: 5}, false, false},
		{api.Label{Level: 3, Cats: 2, Integ: 5}, true, false},
		{api.Label{Level: 3, Cats: 7, Integ: 5}, false, false},
		{api.Label{Level: 3, Cats: 6, Integ: 6}, true, false},
		{api.Label{Level: 3, Cats: 6, Integ: 4}, false, false},
		{api.Label{Level: 2, Cats: 9, Integ: 7}, false, false},
	} {
		if got := ceiling.Reads(cur, x.a); got != x.reads {
			t.Errorf("Reads(%v, %v): %t", cur, x.a, got)
		}
		if got := ceiling.Writes(cur, x.a); got != x.writes {
			t.Errorf("Writes(%v, %v): %t", cur, x.a, got)
		}
	}
}

func TestSend(t *testing.T) {
	cur := api.Label{Level: 3, Cats: 6, Integ: 5}
	for _, x := range []struct {
		a     api.Label
		blind bool
		e     api.Errno
	}{
		{cur, false, api.OK},
		{top, true, api.OK},
		{api.Label{Level: 4, Cats: 6, Integ: 5}, true, api.OK},
		{api.Label{Level: 3, Cats: 7, Integ: 5}, true, api.OK},
		{api.Label{Level: 3, Cats: 6, Integ: 4}, true, api.OK},
		{bottom, false, api.ErrDown},
		{api.Label{Level: 2, Cats: 6, Integ: 5}, false, api.ErrDown},
		{api.Label{Level: 3, Cats: 2, Integ: 5}, false, api.ErrDown},
		{api.Label{Level: 3, Cats: 6, Integ: 6}, false, api.ErrDown},
		{api.Label{Level: 15, Cats: full - 4, Integ: 0}, false, api.ErrDown},
	} {
		isSend(t, cur, x.a, x.blind, x.e)
	}
}

func TestGain(t *testing.T) {
	cur := api.Label{Level: 3, Cats: 6, Integ: 5}
	for _, x := range []struct{ a, want api.Label }{
		{cur, bottom},
		{bottom, bottom},
		{top, api.Label{Level: 15, Cats: full - 6, Integ: 0}},
		{api.Label{Level: 4, Cats: 6, Integ: 5}, api.Label{Level: 4, Integ: 7}},
		{api.Label{Level: 2, Cats: 6, Integ: 5}, bottom},
		{api.Label{Level: 3, Cats: 7, Integ: 5}, api.Label{Cats: 1, Integ: 7}},
		{api.Label{Level: 3, Cats: 1<<63 | 2, Integ: 5}, api.Label{Cats: 1 << 63, Integ: 7}},
		{api.Label{Level: 3, Cats: 6, Integ: 4}, api.Label{Integ: 4}},
		{api.Label{Level: 3, Cats: 6, Integ: 6}, bottom},
		{api.Label{Level: 0, Cats: 8, Integ: 0}, api.Label{Cats: 8, Integ: 0}},
		{api.Label{Level: 15, Cats: 2, Integ: 7}, api.Label{Level: 15, Integ: 7}},
	} {
		isGain(t, cur, x.a, x.want, api.OK)
	}
	isGain(t, bottom, top, top, api.OK)
	isGain(t, top, bottom, bottom, api.OK)
	isGain(t, top, top, bottom, api.OK)
	isGain(t, none, none, bottom, api.OK)
	for _, a := range few() {
		isGain(t, bottom, a, a, api.OK)
	}
}

func TestFlowsAreTheModels(t *testing.T) {
	for _, l := range [][]api.Label{few(), small()} {
		for _, cur := range l {
			for _, a := range l {
				if got := ceiling.Reads(cur, a); got != lies(a, cur) {
					t.Errorf("Reads(%v, %v): %t", cur, a, got)
				}
				if got := ceiling.Writes(cur, a); got != (facts(a) == facts(cur)) {
					t.Errorf("Writes(%v, %v): %t", cur, a, got)
				}
				if lies(cur, a) {
					isSend(t, cur, a, facts(a) != facts(cur), api.OK)
				} else {
					isSend(t, cur, a, false, api.ErrDown)
				}
				isGain(t, cur, a, lacks(cur, a), api.OK)
			}
		}
	}
}

// What is missing is under whatever else takes one there.
func TestGainIsTheLeast(t *testing.T) {
	l := small()
	d := draw(3)
	for range 3000 {
		cur, a := d.label(), d.label()
		gain, e := ceiling.Gain(cur, a)
		end := both(cur, a)
		if e != api.OK || both(cur, gain) != end {
			t.Errorf("Gain(%v, %v): %v, %d, and the join with it is not %v", cur, a, gain, e, end)
		}
		for _, b := range l {
			if both(cur, b) == end && !label.Under(gain, b) {
				t.Errorf("Gain(%v, %v): %v, and %v, which is not above it, does as well", cur, a, gain, b)
			}
		}
	}
}

func TestFlowsRefuseWhatIsNoLabel(t *testing.T) {
	for _, w := range wrong {
		for _, a := range slices.Concat(few(), wrong) {
			for range 2 {
				if ceiling.Reads(w, a) || ceiling.Writes(w, a) {
					t.Errorf("of %v and %v: reads %t, writes %t", w, a, ceiling.Reads(w, a), ceiling.Writes(w, a))
				}
				isSend(t, w, a, false, api.ErrLabel)
				isGain(t, w, a, none, api.ErrLabel)
				w, a = a, w
			}
		}
	}
}

// P12.3

func TestWhoFloatsNeverComesDown(t *testing.T) {
	for _, cur := range few() {
		for _, a := range few() {
			for _, high := range []api.Label{top, {Level: 7, Cats: 3, Integ: 4}, a, cur} {
				end, e := ceiling.Float(cur, a, high)
				if e != api.OK {
					continue
				}
				if !label.Under(cur, end) || !label.Under(a, end) || !label.Under(end, high) {
					t.Errorf("Float(%v, %v, %v): %v", cur, a, high, end)
				}
				if !ceiling.Reads(end, a) || !ceiling.Reads(end, cur) {
					t.Errorf("one of %v floats to %v, and can't read there, or at %v", cur, end, a)
				}
				// Once there one stays there.
				isFloat(t, end, a, high, end, api.OK)
			}
		}
	}
}

func TestPathNeverComesDown(t *testing.T) {
	d := draw(7)
	for range 5000 {
		cur, l := d.label(), d.list(5)
		high := both(cur, d.label())
		at := cur
		for n := range len(l) + 1 {
			end, done, e := ceiling.Path(cur, l[:n], high)
			if !label.Under(at, end) || !label.Under(end, high) || done > n || (done == n) != (e == api.OK) {
				t.Errorf("Path(%v, %v, %v): %v, %d, %d, from %v", cur, l[:n], high, end, done, e, at)
			}
			at = end
		}
	}
}

// Where one may go all the way, it is the same in whatever order, and so is whether one may.
func TestTheOrderOfAPathDoesNotMatter(t *testing.T) {
	d := draw(9)
	through := 0
	for range 3000 {
		cur, l := d.label(), d.list(4)
		high := both(both(cur, d.label()), both(d.label(), d.label()))
		want, _, wantE := ceiling.Path(cur, l, high)
		if wantE == api.OK {
			through++
		}
		for k := range 24 {
			// The k-th order of four.
			left, order := slices.Clone(l), []api.Label(nil)
			for n := len(left); n > 0; n-- {
				order = append(order, left[k%n])
				left = slices.Delete(left, k%n, k%n+1)
				k /= n
			}
			end, _, e := ceiling.Path(cur, order, high)
			if e != wantE || e == api.OK && end != want {
				t.Errorf("Path(%v, %v, %v): %v, %d; in another order %v, %d", cur, order, high, end, e, want, wantE)
			}
		}
	}
	if through < 300 || through > 2700 {
		t.Errorf("%d of 3000 paths go all the way", through)
	}
}

func TestFlowsFollowFromEachOther(t *testing.T) {
	l := append(few(), wrong...)
	for _, cur := range l {
		for _, a := range l {
			reads, writes := ceiling.Reads(cur, a), ceiling.Writes(cur, a)
			blind, e := ceiling.Send(cur, a)
			sends := e == api.OK
			if writes && !reads {
				t.Errorf("one of %v may write at %v, and not read", cur, a)
			}
			if writes != (reads && sends) {
				t.Errorf("one of %v and %v: reads %t, sends %t, writes %t", cur, a, reads, sends, writes)
			}
			if sends && blind == reads {
				t.Errorf("one of %v sends to %v: blind %t, reads %t", cur, a, blind, reads)
			}
		}
	}
}

func TestWhatIsMissingTakesOneThere(t *testing.T) {
	for _, cur := range few() {
		for _, a := range few() {
			gain, _ := ceiling.Gain(cur, a)
			want, _ := ceiling.Float(cur, a, top)
			isFloat(t, cur, gain, top, want, api.OK)
			if !label.Under(gain, a) {
				t.Errorf("Gain(%v, %v): %v, which is not under what it stands for", cur, a, gain)
			}
			if (gain == bottom) != ceiling.Reads(cur, a) {
				t.Errorf("Gain(%v, %v): %v, and reads: %t", cur, a, gain, ceiling.Reads(cur, a))
			}
		}
	}
}

// R3

func TestWhatIsHandedInIsNotWrittenInto(t *testing.T) {
	cur := api.Label{Level: 3, Cats: 1, Integ: 5}
	for _, l := range [][]api.Label{{cur, bottom, top}, {bottom, {Level: 4, Integ: 7}, cur}, {top, {Level: 16}, bottom}} {
		room := append(slices.Clone(l), api.Label{Level: 9}, api.Label{Integ: -4})
		want := slices.Clone(room)
		ceiling.Path(cur, room[:len(l)], cur)
		ceiling.Path(cur, room[:len(l)], top)
		if !slices.Equal(room, want) {
			t.Errorf("Path wrote: %v; was %v", room, want)
		}
	}
}

// R4

func TestAnswersHangOnArgumentsAlone(t *testing.T) {
	cur := api.Label{Level: 3, Cats: 1, Integ: 5}
	a := api.Label{Level: 2, Cats: 2, Integ: 6}
	end := api.Label{Level: 3, Cats: 3, Integ: 5}
	l := []api.Label{bottom, a}
	for range 2 {
		isPath(t, cur, []api.Label{{Level: 16}}, top, none, 0, api.ErrLabel)
		isPath(t, cur, l, cur, cur, 1, api.ErrCeiling)
		isPath(t, cur, l, top, end, 2, api.OK)
		isFloat(t, cur, a, cur, none, api.ErrCeiling)
		isFloat(t, cur, a, end, end, api.OK)
		isSend(t, cur, a, false, api.ErrDown)
		isSend(t, cur, end, true, api.OK)
		isGain(t, cur, a, api.Label{Cats: 2, Integ: 7}, api.OK)
	}
	// What was handed in is not kept: it may be another one next time.
	l[1] = bottom
	isPath(t, cur, l, cur, cur, 2, api.OK)
}
