package world_test

import (
	"fmt"
	"maps"
	"math"
	"slices"
	"strings"
	"testing"

	"plimsoll/api"
	"plimsoll/world"
)

const full = math.MaxUint64

var (
	bottom = api.Label{Level: 0, Cats: 0, Integ: 7}
	top    = api.Label{Level: 15, Cats: full, Integ: 0}
)

// wrong are no labels: the nearest ones, those that are one modulo 8, 16, 256 or 2^32, the utmost.
var wrong = []api.Label{
	{Level: -1}, {Level: 16}, {Integ: -1}, {Integ: 8},
	{Level: -1, Cats: full, Integ: 7}, {Level: 16, Cats: 1, Integ: 7}, {Level: 15, Cats: 1, Integ: 8}, {Level: 15, Integ: -1},
	{Level: 256}, {Integ: 256}, {Level: 1 << 32}, {Integ: 1 << 32}, {Level: -1 << 32}, {Integ: -1 << 32},
	{Level: math.MinInt}, {Level: math.MaxInt}, {Integ: math.MinInt}, {Integ: math.MaxInt},
}

// some labels, by the total order, which differ in one number, in two, or in all: many of them are not under each other.
func some() []api.Label {
	var l []api.Label
	for _, level := range []int{0, 1, 15} {
		for _, s := range []uint64{0, 1, 2, 3, full >> 1, 1 << 63, full} {
			for _, integ := range []int{0, 5, 7} {
				l = append(l, api.Label{Level: level, Cats: s, Integ: integ})
			}
		}
	}
	return l
}

// few of them are enough where much is done with each.
func few() []api.Label {
	return []api.Label{bottom, {Cats: 1, Integ: 7}, {Level: 1, Cats: 1, Integ: 5}, {Level: 1, Cats: 2, Integ: 5}, {Level: 1, Cats: 3}, {Level: 2}, {Level: 2, Integ: 1}, top}
}

// under tells of two labels whether the one is under the other, number by number.
func under(a, b api.Label) bool {
	return a.Level <= b.Level && a.Cats&^b.Cats == 0 && a.Integ >= b.Integ
}

func compare(a, b api.Label) int {
	if a.Level != b.Level {
		return a.Level - b.Level
	}
	if a.Cats != b.Cats {
		if a.Cats < b.Cats {
			return -1
		}
		return 1
	}
	return a.Integ - b.Integ
}

// long is a text of n bytes.
func long(n int) string {
	return strings.Repeat("x", n)
}

func fileOf(name, data string) api.Obj {
	return api.Obj{Name: name, Kind: api.KindFile, Data: data}
}

func ringOf(name string, max int, items ...string) api.Obj {
	return api.Obj{Name: name, Kind: api.KindRing, Ring: api.Ring{Max: max, L: items}}
}

// filled is a space of n files.
func filled(n int) []api.Obj {
	var l []api.Obj
	for i := range n {
		l = append(l, fileOf("n"+string(rune('a'+i)), long(i)))
	}
	return l
}

// kept are spaces that have some object, and what each costs.
func kept() []struct {
	l    []api.Obj
	cost int
} {
	return []struct {
		l    []api.Obj
		cost int
	}{
		{[]api.Obj{fileOf("a", "abc")}, 14},
		{[]api.Obj{ringOf("b", 20, "ab", "", "c")}, 31},
		{[]api.Obj{fileOf("a", "abc"), ringOf("b", 20, "x")}, 45},
		{[]api.Obj{fileOf("a", "")}, 11},
		{[]api.Obj{ringOf("z", 0)}, 11},
		{[]api.Obj{fileOf(strings.Repeat("z", 20), long(1000))}, 1030},
		{[]api.Obj{ringOf(strings.Repeat("0", 20), 2000, make([]string, 2000)...)}, 2030},
		{filled(20), 20*12 + 190},
	}
}

// noSpaces each break one thing of a space's: how many objects, their order, one's name, kind, data or ring.
func noSpaces() [][]api.Obj {
	a, b := fileOf("a", "x"), ringOf("b", 5, "y")
	return [][]api.Obj{
		{{}}, {b, a}, {a, a}, {a, b, b}, filled(21), slices.Repeat([]api.Obj{a}, 20),
		{fileOf("", "x")}, {fileOf("A", "x")}, {fileOf(long(21), "")}, {a, fileOf("b ", "")}, {{Name: "a"}}, {{Name: "a", Kind: 3}}, {{Name: "a", Kind: -1}}, {{Name: "a", Kind: 1<<32 + 1}},
		{fileOf("a", long(1001))}, {a, {Name: "b", Kind: api.KindFile, Ring: api.Ring{Max: 1}}}, {{Name: "b", Kind: api.KindFile, Ring: api.Ring{L: []string{""}}}},
		{ringOf("b", -1)}, {ringOf("b", 2001)}, {ringOf("b", 1, "a")}, {a, ringOf("b", 2000, long(201))}, {{Name: "b", Kind: api.KindRing, Data: "x"}},
	}
}

// worldOf has a part for each label, with spaces of kept by turns; no two next to each other have the same.
func worldOf(labels ...api.Label) []api.Part {
	var w []api.Part
	l := kept()
	for i, a := range labels {
		w = append(w, api.Part{Label: a, L: l[i%len(l)].l})
	}
	return w
}

// many is a world of n parts: there may be as many as there are labels.
func many(n int) []api.Part {
	var w []api.Part
	for i := range n {
		w = append(w, api.Part{Label: api.Label{Level: 1, Cats: uint64(2 * i), Integ: 3}, L: []api.Obj{fileOf("a", "")}})
	}
	return w
}

// worlds are right.
func worlds() [][]api.Part {
	all := [][]api.Part{nil, {}, worldOf(some()...), worldOf(few()...), many(1001), many(3000)}
	for _, x := range kept() {
		all = append(all, []api.Part{{Label: bottom, L: x.l}}, []api.Part{{Label: api.Label{}, L: x.l}, {Label: top, L: x.l}})
	}
	for _, a := range some() {
		all = append(all, worldOf(a))
	}
	return append(all,
		// They rise by the total order, though none is under the next one, or each next one is under the one ahead.
		worldOf(api.Label{Cats: 1}, api.Label{Cats: 2}),
		worldOf(api.Label{Integ: 0}, api.Label{Integ: 1}),
		worldOf(api.Label{Cats: full, Integ: 7}, api.Label{Level: 1}),
		worldOf(api.Label{Cats: 1, Integ: 7}, api.Label{Cats: 2}),
		worldOf(api.Label{Cats: full >> 1}, api.Label{Cats: 1 << 63}))
}

// noWorlds each break one thing of a world's, at its first part, in the middle, at its last one.
func noWorlds() [][]api.Part {
	var all [][]api.Part
	w := worldOf(few()...)
	for _, i := range []int{0, 1, len(w) / 2, len(w) - 1} {
		for _, a := range wrong {
			all = append(all, replaced(w, i, api.Part{Label: a, L: w[i].L}))
		}
		for _, l := range append(noSpaces(), nil, []api.Obj{}, make([]api.Obj, 0, 5)) {
			all = append(all, replaced(w, i, api.Part{Label: w[i].Label, L: l}))
		}
		all = append(all, slices.Insert(copied(w), i, w[i]), append(copied(w), w[i]))
		if i > 0 {
			c := copied(w)
			c[i-1], c[i] = c[i], c[i-1]
			all = append(all, c, replaced(w, i, w[i-1]))
		}
	}
	for _, a := range append(wrong, few()...) {
		all = append(all, []api.Part{{Label: a}}, []api.Part{{Label: a, L: []api.Obj{{}}}})
	}
	for _, a := range wrong {
		all = append(all, worldOf(a), worldOf(a, top))
	}
	reversed := copied(w)
	slices.Reverse(reversed)
	return append(all, reversed, []api.Part{{}}, make([]api.Part, 1000), slices.Repeat(worldOf(bottom), 1000))
}

// sameSpace is asked ahead of what is held against it, as same is, so that a fault of the program's own is none of these tests'.
func sameSpace(a, b []api.Obj) bool {
	return slices.EqualFunc(a, b, func(x, y api.Obj) bool {
		return x.Name == y.Name && x.Kind == y.Kind && x.Data == y.Data && x.Ring.Max == y.Ring.Max && slices.Equal(x.Ring.L, y.Ring.L)
	})
}

func same(a, b []api.Part) bool {
	return slices.EqualFunc(a, b, func(x, y api.Part) bool {
		return x.Label == y.Label && sameSpace(x.L, y.L)
	})
}

// copiedSpace is another list like it, without spare room, as copied is.
func copiedSpace(l []api.Obj) []api.Obj {
	made := make([]api.Obj, len(l))
	for i, o := range l {
		made[i] = o
		made[i].Ring.L = append(make([]string, 0, len(o.Ring.L)), o.Ring.L...)
	}
	return made
}

func copied(w []api.Part) []api.Part {
	made := make([]api.Part, len(w))
	for i, p := range w {
		made[i] = api.Part{Label: p.Label, L: copiedSpace(p.L)}
	}
	return made
}

// replaced is the list with another part in place of one.
func replaced(w []api.Part, i int, p api.Part) []api.Part {
	return slices.Replace(copied(w), i, i+1, p)
}

// show is as much of a thing as is told of it; some are long.
func show(x any) string {
	s := fmt.Sprintf("%#v", x)
	return s[:min(len(s), 500)]
}

func wantWorld(t *testing.T, what string, w []api.Part, e api.Errno, want []api.Part) {
	t.Helper()
	if !same(w, want) || e != api.OK {
		t.Fatalf("%s: %s, %d; want %s, OK", what, show(w), e, show(want))
	}
}

func wantError(t *testing.T, what string, w []api.Part, e api.Errno, want api.Errno) {
	t.Helper()
	if len(w) != 0 || e != want {
		t.Fatalf("%s: %s, %d; want nothing, %d", what, show(w), e, want)
	}
}

func wantSpace(t *testing.T, what string, l, want []api.Obj) {
	t.Helper()
	if !sameSpace(l, want) {
		t.Fatalf("%s: %s; want %s", what, show(l), show(want))
	}
}

// model is a world as a map from labels to spaces.
type model map[api.Label][]api.Obj

func modelOf(w []api.Part) model {
	m := model{}
	for _, p := range w {
		m[p.Label] = p.L
	}
	return m
}

// set gives back the model, so that what comes of it can be listed at once.
func (m model) set(a api.Label, l []api.Obj) model {
	m[a] = l
	if len(l) == 0 {
		delete(m, a)
	}
	return m
}

func (m model) list() []api.Part {
	var w []api.Part
	for _, a := range slices.SortedFunc(maps.Keys(m), compare) {
		w = append(w, api.Part{Label: a, L: m[a]})
	}
	return w
}

// The chapter's example

func TestExample(t *testing.T) {
	l := []api.Obj{fileOf("a", "")}
	w, e := world.Set(nil, bottom, l)
	wantWorld(t, "a file at the bottom", w, e, []api.Part{{Label: bottom, L: l}})
	w, e = world.Set(w, bottom, nil)
	wantWorld(t, "then none", w, e, nil)
}

// P11.1

func TestRight(t *testing.T) {
	for i, w := range worlds() {
		if !world.Right(w) {
			t.Errorf("Right of world %d: false", i)
		}
	}
	for i, w := range noWorlds() {
		if world.Right(w) {
			t.Errorf("Right of no world, %d: true", i)
		}
	}
}

// TestRightOfTwo holds each two labels against each other by their numbers.
func TestRightOfTwo(t *testing.T) {
	for i, a := range some() {
		for j, b := range some() {
			if got := world.Right(worldOf(a, b)); got != (i < j) {
				t.Errorf("Right of %v, %v: %t", a, b, got)
			}
		}
	}
}

// TestRightOfEachLevelAndInteg goes through the numbers about the bounds.
func TestRightOfEachLevelAndInteg(t *testing.T) {
	for level := -300; level < 300; level++ {
		for integ := -20; integ < 20; integ++ {
			want := level >= 0 && level <= 15 && integ >= 0 && integ <= 7
			if got := world.Right(worldOf(api.Label{Level: level, Cats: 5, Integ: integ})); got != want {
				t.Fatalf("Right of level %d, integrity %d: %t", level, integ, got)
			}
		}
	}
}

func TestGet(t *testing.T) {
	for _, w := range worlds() {
		m := modelOf(w)
		for _, p := range w[:min(len(w), 100)] {
			wantSpace(t, "Get", world.Get(w, p.Label), p.L)
		}
		for _, a := range append(some(), wrong...) {
			wantSpace(t, "Get of some label", world.Get(w, a), m[a])
		}
	}
	for i, p := range worldOf(some()...) {
		w := slices.Delete(worldOf(some()...), i, i+1)
		wantSpace(t, "Get of a label without a part", world.Get(w, p.Label), nil)
	}
}

// TestGetOfNoWorld: not even a part that is as it should be is told.
func TestGetOfNoWorld(t *testing.T) {
	for i, w := range noWorlds() {
		for _, p := range w[:min(len(w), 30)] {
			wantSpace(t, fmt.Sprint("Get of no world, ", i), world.Get(w, p.Label), nil)
		}
		for _, a := range append(few(), wrong...) {
			wantSpace(t, fmt.Sprint("Get of no world, ", i), world.Get(w, a), nil)
		}
	}
}

// seen are the parts that are to be seen; a label is one, if it lies between the bottom and the top.
func seen(w []api.Part, a api.Label) []api.Part {
	isLabel := func(a api.Label) bool { return under(bottom, a) && under(a, top) }
	return slices.DeleteFunc(slices.Clone(w), func(p api.Part) bool {
		return !isLabel(a) || !isLabel(p.Label) || !under(p.Label, a)
	})
}

func TestSeen(t *testing.T) {
	for _, w := range worlds() {
		for _, a := range append(some(), wrong...) {
			wantWorld(t, fmt.Sprint("Seen from ", a), world.Seen(w, a), api.OK, seen(w, a))
		}
		wantWorld(t, "Seen from the top", world.Seen(w, top), api.OK, w)
		for _, a := range wrong {
			wantWorld(t, "Seen from no label", world.Seen(w, a), api.OK, nil)
		}
	}
	w := worldOf(some()...)
	wantWorld(t, "Seen from the bottom", world.Seen(w, bottom), api.OK, w[2:3])
}

// TestSeenOfNoWorld: the parts count, whatever they have, and wherever they stand.
func TestSeenOfNoWorld(t *testing.T) {
	for i, w := range noWorlds() {
		for _, a := range append(few(), wrong...) {
			wantWorld(t, fmt.Sprint("Seen of no world, ", i), world.Seen(w, a), api.OK, seen(w, a))
		}
	}
	w := []api.Part{{Label: top}, {Label: bottom, L: []api.Obj{{}}}, {Label: api.Label{Level: 16}}, {Label: bottom}}
	wantWorld(t, "Seen from the bottom", world.Seen(w, bottom), api.OK, []api.Part{w[1], w[3]})
}

// TestWithin: each space is held against the quota by itself, not all of them together.
func TestWithin(t *testing.T) {
	for _, dear := range kept() {
		for i := range few() {
			w := worldOf(few()...)
			for j := range w {
				w[j].L = []api.Obj{fileOf("a", "")}
			}
			w[i].L = dear.l
			for _, quota := range []int{dear.cost, dear.cost + 1, dear.cost + 11, 100000, 100001, math.MaxInt} {
				if !world.Within(w, quota) || !world.Within(w[i:i+1], quota) {
					t.Errorf("Within %d of what costs %d at %d: false", quota, dear.cost, i)
				}
			}
			for _, quota := range []int{dear.cost - 1, dear.cost - 11, 10, 1, 0, -1, -dear.cost, -1 << 32, math.MinInt, math.MinInt + 1} {
				if world.Within(w, quota) || world.Within(w[i:i+1], quota) {
					t.Errorf("Within %d of what costs %d at %d: true", quota, dear.cost, i)
				}
			}
		}
	}
	if !world.Within(many(3000), 11) || world.Within(many(3000), 10) {
		t.Error("Within of many parts that cost 11")
	}
}

// TestWithinOfNothing: without a space none costs too much, even where the quota is none.
func TestWithinOfNothing(t *testing.T) {
	for _, quota := range []int{0, 1, -1, 100000, math.MinInt, math.MaxInt} {
		if !world.Within(nil, quota) || !world.Within([]api.Part{}, quota) {
			t.Errorf("Within %d of nothing: false", quota)
		}
	}
}

func TestWithinOfNoWorld(t *testing.T) {
	for i, w := range noWorlds() {
		for _, quota := range []int{0, 11, 9999, 100000, -1, math.MinInt, math.MaxInt} {
			if world.Within(w, quota) {
				t.Errorf("Within %d of no world, %d: true", quota, i)
			}
		}
	}
}

func TestSame(t *testing.T) {
	for i, w := range append(worlds(), noWorlds()...) {
		if !world.Same(w, w) || !world.Same(w, copied(w)) || !world.Same(copied(w), w) {
			t.Errorf("Same of %d and another one like it: false", i)
		}
	}
	a, file, ring := api.Label{Level: 3, Cats: 5, Integ: 2}, fileOf("a", "x"), ringOf("b", 9, "y", "z")
	w := []api.Part{{Label: a, L: []api.Obj{file, ring}}, {Label: top, L: []api.Obj{file}}}
	others := [][]api.Part{nil, {}, w[:1], w[1:], {w[1], w[0]}, {w[0], w[0]}, append(copied(w), api.Part{}), append([]api.Part{{}}, w...), append(copied(w), w[1])}
	for _, b := range []api.Label{{}, {Level: 4, Cats: 5, Integ: 2}, {Level: 3, Cats: 4, Integ: 2}, {Level: 3, Cats: 5 | 1<<63, Integ: 2}, {Level: 3, Cats: 5, Integ: 3}, {Level: 3 + 1<<32, Cats: 5, Integ: 2}, {Level: 3, Cats: 5, Integ: -2}, top} {
		others = append(others, replaced(w, 0, api.Part{Label: b, L: w[0].L}))
	}
	for _, l := range [][]api.Obj{nil, {}, {file}, {ring}, {ring, file}, {file, file}, {file, ring, ring}, {file, ring, {}}, {file, {}}, {fileOf("c", "x"), ring}, {fileOf("a", "y"), ring}, {fileOf("a", ""), ring}, {{Name: "a", Kind: 2, Data: "x"}, ring}, {file, ringOf("b", 8, "y", "z")}, {file, ringOf("b", 9, "y")}, {file, ringOf("b", 9, "z", "y")}, {file, ringOf("b", 9, "y", "z", "")}} {
		others = append(others, replaced(w, 0, api.Part{Label: a, L: l}))
	}
	for i, v := range others {
		if world.Same(w, v) || world.Same(v, w) {
			t.Errorf("Same of other %d: true", i)
		}
	}
}

// P11.2

func TestSet(t *testing.T) {
	for _, w := range worlds() {
		for _, a := range few() {
			for _, x := range kept() {
				made, e := world.Set(w, a, x.l)
				wantWorld(t, fmt.Sprint("Set of ", a), made, e, modelOf(w).set(a, x.l).list())
				if !world.Right(made) {
					t.Fatalf("Set of %v: no world, %s", a, show(made))
				}
			}
			made, e := world.Set(w, a, nil)
			wantWorld(t, fmt.Sprint("Set to nothing of ", a), made, e, modelOf(w).set(a, nil).list())
		}
	}
}

// TestSetOfEach puts in, puts in place of, and takes out at each place.
func TestSetOfEach(t *testing.T) {
	all := worldOf(some()...)
	other := []api.Obj{ringOf("other", 5, "x"), fileOf("things", "")}
	for i, p := range all {
		without := slices.Delete(copied(all), i, i+1)
		made, e := world.Set(all, p.Label, nil)
		wantWorld(t, fmt.Sprint("taken out: ", p.Label), made, e, without)
		made, e = world.Set(without, p.Label, nil)
		wantWorld(t, fmt.Sprint("taken out where there is none: ", p.Label), made, e, without)
		made, e = world.Set(without, p.Label, p.L)
		wantWorld(t, fmt.Sprint("put in: ", p.Label), made, e, all)
		made, e = world.Set(all, p.Label, other)
		wantWorld(t, fmt.Sprint("put in place of: ", p.Label), made, e, replaced(all, i, api.Part{Label: p.Label, L: other}))
		made, e = world.Set(all, p.Label, p.L)
		wantWorld(t, fmt.Sprint("put in as it is: ", p.Label), made, e, all)
	}
}

// TestSetOfMany: there is room for a part of each label, however many there are.
func TestSetOfMany(t *testing.T) {
	w, l := many(3000), []api.Obj{fileOf("a", "")}
	for _, at := range []int{0, 1, 1500, 2999, 3000} {
		a := api.Label{Level: 1, Cats: uint64(2*at) - 1, Integ: 3}
		if at == 0 {
			a = bottom
		}
		made, e := world.Set(w, a, l)
		wantWorld(t, fmt.Sprint("Set of ", a), made, e, slices.Insert(copied(w), at, api.Part{Label: a, L: l}))
	}
}

// spacesToSet are right ones, with one that is empty.
func spacesToSet() [][]api.Obj {
	all := [][]api.Obj{nil, {}}
	for _, x := range kept() {
		all = append(all, x.l)
	}
	return all
}

// TestErrPartFirst: nothing is set in what is no world, nor to what is no space, whatever the label is.
func TestErrPartFirst(t *testing.T) {
	for i, w := range noWorlds() {
		for _, a := range append(few(), wrong...) {
			for _, l := range append(spacesToSet()[:4], noSpaces()...) {
				made, e := world.Set(w, a, l)
				wantError(t, fmt.Sprint("Set in no world, ", i), made, e, api.ErrPart)
			}
		}
	}
	for _, w := range [][]api.Part{nil, worldOf(bottom), worldOf(few()...), worldOf(some()...)} {
		for i, l := range noSpaces() {
			for _, a := range append(few(), wrong...) {
				made, e := world.Set(w, a, l)
				wantError(t, fmt.Sprint("Set to no space, ", i), made, e, api.ErrPart)
			}
		}
	}
}

func TestErrLabel(t *testing.T) {
	for _, w := range worlds() {
		for _, a := range wrong {
			for _, l := range spacesToSet() {
				made, e := world.Set(w, a, l)
				wantError(t, fmt.Sprint("Set of ", a), made, e, api.ErrLabel)
			}
		}
	}
}

// P11.3

// TestSetIsGot: the spaces of all other labels are as they were, those that are near it, too.
func TestSetIsGot(t *testing.T) {
	for _, w := range [][]api.Part{nil, worldOf(top), worldOf(few()...), worldOf(some()...)} {
		m := modelOf(w)
		for _, a := range append(some(), few()...) {
			for _, l := range spacesToSet()[1:5] {
				made, e := world.Set(w, a, l)
				if e != api.OK {
					t.Fatalf("Set of %v: %d", a, e)
				}
				wantSpace(t, fmt.Sprint("Get of ", a), world.Get(made, a), l)
				for _, b := range append(some(), few()...) {
					if b != a {
						wantSpace(t, fmt.Sprint("Get of another label, ", b), world.Get(made, b), m[b])
					}
				}
			}
		}
	}
}

// TestSeenHangsOnWhatIsUnder: what is set at a label changes what is seen from those that it is under, as if nothing else were there; from all others nothing of it is seen.
func TestSeenHangsOnWhatIsUnder(t *testing.T) {
	for _, w := range [][]api.Part{nil, worldOf(few()...), worldOf(some()...)} {
		for _, a := range append(some(), few()...) {
			for _, l := range spacesToSet()[1:4] {
				made, e := world.Set(w, a, l)
				if e != api.OK {
					t.Fatalf("Set of %v: %d", a, e)
				}
				for _, b := range few() {
					want := seen(w, b)
					if under(a, b) {
						want = modelOf(want).set(a, l).list()
					}
					wantWorld(t, fmt.Sprintf("Seen from %v, set at %v", b, a), world.Seen(made, b), api.OK, want)
				}
			}
		}
	}
}

// TestSeenIsAWorld in which the spaces are what they were, and which is seen whole again.
func TestSeenIsAWorld(t *testing.T) {
	for _, w := range worlds() {
		m := modelOf(w)
		for _, a := range few() {
			v := world.Seen(w, a)
			if !world.Right(v) {
				t.Fatalf("Seen from %v: no world, %s", a, show(v))
			}
			wantWorld(t, fmt.Sprint("Seen again from ", a), world.Seen(v, a), api.OK, v)
			for _, b := range few() {
				want := m[b]
				if !under(b, a) {
					want = nil
				}
				wantSpace(t, fmt.Sprintf("Get of %v, seen from %v", b, a), world.Get(v, b), want)
			}
		}
	}
}

// draw is where a run's next steps come from: the same ones each time.
type draw uint64

func (d *draw) below(n int) int {
	*d = *d*6364136223846793005 + 1442695040888963407
	return int(uint64(*d) >> 33 % uint64(n))
}

// TestLongRuns holds a world against a model, step by step.
func TestLongRuns(t *testing.T) {
	labels := append(some(), wrong[:4]...)
	lists := append(spacesToSet(), noSpaces()[:3]...)
	told := map[api.Errno]int{}
	for run := range 4 {
		m, d := model{}, draw(run)
		var w []api.Part
		for range 1000 {
			i, j := d.below(len(labels)), d.below(len(lists))
			want := api.OK
			if j >= len(spacesToSet()) {
				want = api.ErrPart
			} else if i >= len(some()) {
				want = api.ErrLabel
			}
			told[want]++
			made, e := world.Set(w, labels[i], lists[j])
			if want != api.OK {
				wantError(t, "a step", made, e, want)
				continue
			}
			w = made
			wantWorld(t, "a step", w, e, m.set(labels[i], lists[j]).list())
			b := labels[d.below(len(labels))]
			wantSpace(t, "Get", world.Get(w, b), m[b])
			wantWorld(t, "Seen", world.Seen(w, b), api.OK, seen(w, b))
		}
	}
	for _, e := range []api.Errno{api.OK, api.ErrPart, api.ErrLabel} {
		if told[e] == 0 {
			t.Errorf("no step told %d", e)
		}
	}
}

// TestAnyOrder: which label is set first is not to be seen in the world.
func TestAnyOrder(t *testing.T) {
	want := worldOf(some()...)
	for run := range 50 {
		d := draw(run)
		left := copied(want)
		var w []api.Part
		for len(left) > 0 {
			i := d.below(len(left))
			made, e := world.Set(w, left[i].Label, left[i].L)
			if e != api.OK {
				t.Fatalf("Set of %v: %d", left[i].Label, e)
			}
			w, left = made, slices.Delete(left, i, i+1)
		}
		wantWorld(t, "set in some order", w, api.OK, want)
	}
}

// R3, R4

// roomySpace is a list with spare room behind its objects, and behind each ring's items, and in it what must stay.
func roomySpace(l []api.Obj) []api.Obj {
	all := append(copiedSpace(l), fileOf("spare", "room"), ringOf("spare", 9, "room"))
	for i, o := range all {
		items := append(slices.Clone(o.Ring.L), "spare", "room")
		all[i].Ring.L = items[:len(o.Ring.L)]
	}
	return all[:len(l)]
}

// roomy is a list of parts with spare room behind all that it has; the second list is all of it.
func roomy(w []api.Part) ([]api.Part, []api.Part) {
	all := append(copied(w), worldOf(bottom, top)...)
	for i, p := range all {
		all[i].L = roomySpace(p.L)
	}
	return all[:len(w)], all
}

// deepSpace is a copy of all that a list has, spare room too, as deep is.
func deepSpace(l []api.Obj) []api.Obj {
	made := slices.Clone(l[:cap(l)])
	for i, o := range made {
		made[i].Ring.L = slices.Clone(o.Ring.L[:cap(o.Ring.L)])
	}
	return made
}

func deep(w []api.Part) []api.Part {
	made := slices.Clone(w[:cap(w)])
	for i, p := range made {
		made[i].L = deepSpace(p.L)
	}
	return made
}

// scribbleSpace writes over all that a list has, spare room too, as scribble does.
func scribbleSpace(l []api.Obj) {
	l = l[:cap(l)]
	for i := range l {
		items := l[i].Ring.L[:cap(l[i].Ring.L)]
		for j := range items {
			items[j] = "scribble"
		}
	}
	for i := range l {
		l[i] = fileOf("scribble", "")
	}
}

func scribble(w []api.Part) {
	w = w[:cap(w)]
	for i := range w {
		scribbleSpace(w[i].L)
		w[i] = api.Part{Label: api.Label{Level: 99}}
	}
}

// listsToKeep are such as a world's answers might share memory with.
func listsToKeep() [][]api.Part {
	return [][]api.Part{nil, worldOf(bottom), worldOf(top), worldOf(few()...), worldOf(few()[:3]...), {{Label: bottom, L: []api.Obj{{Name: "a", Kind: api.KindFile, Ring: api.Ring{L: make([]string, 0, 9)}}}}}}
}

// answers are what comes of a list, and of what is set in it; a space is told as if it were a label's.
func answers(w []api.Part, l []api.Obj) [][]api.Part {
	var all [][]api.Part
	for _, a := range few() {
		put, _ := world.Set(w, a, l)
		none, _ := world.Set(w, a, nil)
		all = append(all, put, none, world.Seen(w, a), []api.Part{{Label: a, L: world.Get(w, a)}})
	}
	return all
}

func TestNothingHandedInIsWritten(t *testing.T) {
	for i, w := range append(listsToKeep(), noWorlds()...) {
		handed, all := roomy(w)
		l := roomySpace([]api.Obj{fileOf("a", "abc"), ringOf("b", 20, "x", "y")})
		was, wasSpace := deep(all), deepSpace(l)
		answers(handed, l)
		world.Right(handed)
		world.Within(handed, 100)
		world.Same(handed, handed)
		for _, a := range wrong {
			world.Set(handed, a, l)
			world.Get(handed, a)
			world.Seen(handed, a)
		}
		if !same(deep(all), was) {
			t.Errorf("list %d was written into: %s; want %s", i, show(deep(all)), show(was))
		}
		wantSpace(t, "the space that was handed in", deepSpace(l), wasSpace)
	}
}

// TestAnswersAreNewMemory: what is written into an answer, or its spare room, is not seen in what was handed in, nor in another answer.
func TestAnswersAreNewMemory(t *testing.T) {
	for i, w := range listsToKeep() {
		handed, all := roomy(w)
		l := roomySpace([]api.Obj{fileOf("a", "abc"), ringOf("b", 20, "x", "y")})
		was, wasSpace := deep(all), deepSpace(l)
		got := answers(handed, l)
		for j, made := range got {
			others := make([][]api.Part, len(got))
			for k, other := range got {
				others[k] = deep(other)
			}
			scribble(made)
			for k, other := range got {
				if k != j && !same(deep(other), others[k]) {
					t.Fatalf("list %d: answer %d shares memory with answer %d", i, k, j)
				}
			}
		}
		if !same(deep(all), was) {
			t.Errorf("list %d: an answer shares memory with what was handed in", i)
		}
		wantSpace(t, "the space that was handed in", deepSpace(l), wasSpace)
	}
}

// wantApart writes into one list of an answer after the other, spare room too, and holds all others against what they were.
func wantApart(t *testing.T, what string, made []api.Part) {
	t.Helper()
	for i := range made {
		for j := range made[i].L {
			items := made[i].L[j].Ring.L
			items = items[:cap(items)]
			was := deep(made)
			for k := range items {
				items[k] = "scribble"
			}
			now := deep(made)
			was[i].L[j], now[i].L[j] = api.Obj{}, api.Obj{}
			if !same(now, was) {
				t.Fatalf("%s: the items of object %d of part %d share memory with others", what, j, i)
			}
		}
		was := deep(made)
		scribbleSpace(made[i].L)
		now := deep(made)
		was[i].L, now[i].L = nil, nil
		if !same(now, was) {
			t.Fatalf("%s: the objects of part %d share memory with others", what, i)
		}
	}
}

// TestNoTwoListsOfAnAnswerShare: not even where what was handed in did.
func TestNoTwoListsOfAnAnswerShare(t *testing.T) {
	items := []string{"x", "y", "z"}
	l := []api.Obj{ringOf("a", 20, items...), ringOf("b", 20, items...), ringOf("c", 20, items[:2]...), fileOf("d", "abcd")}
	var w []api.Part
	for i, a := range few() {
		w = append(w, api.Part{Label: a, L: l[:1+i%4]})
	}
	for i, made := range answers(w, l) {
		wantApart(t, fmt.Sprint("answer ", i), made)
	}
	wantApart(t, "of no world", world.Seen(slices.Repeat(w, 2), top))
	if !slices.Equal(items, []string{"x", "y", "z"}) {
		t.Errorf("an answer shares memory with what was handed in: %.50q", items)
	}
}

func TestNothingHandedInIsKept(t *testing.T) {
	for i, w := range listsToKeep() {
		handed, all := roomy(w)
		l := roomySpace([]api.Obj{fileOf("a", "abc"), ringOf("b", 20, "x", "y")})
		got, want := answers(handed, l), answers(copied(w), copiedSpace(l))
		scribble(all)
		scribbleSpace(l)
		for j := range got {
			if !same(got[j], want[j]) {
				t.Fatalf("list %d: answer %d shares memory with what was handed in", i, j)
			}
		}
	}
}

// TestSameAgain: nothing is kept from call to call, neither what was done nor what was wrong.
func TestSameAgain(t *testing.T) {
	w, l := worldOf(few()...), []api.Obj{fileOf("a", "abc")}
	first := answers(w, l)
	for range 3 {
		for _, other := range noWorlds()[:20] {
			answers(other, l)
		}
		for i, made := range answers(w, l) {
			wantWorld(t, "again", made, api.OK, first[i])
		}
	}
}

// TestNilAndEmptyAreOne: lists of parts, of objects, and those of their rings.
func TestNilAndEmptyAreOne(t *testing.T) {
	l := []api.Obj{fileOf("a", "x")}
	for _, w := range [][]api.Part{nil, {}, make([]api.Part, 0, 5)} {
		if !world.Right(w) || !world.Within(w, 0) || len(world.Get(w, bottom)) != 0 || len(world.Seen(w, top)) != 0 || !world.Same(w, nil) || !world.Same(nil, w) {
			t.Error("an empty world is no world, or not as a nil one")
		}
		made, e := world.Set(w, bottom, l)
		wantWorld(t, "Set", made, e, []api.Part{{Label: bottom, L: l}})
		for _, none := range [][]api.Obj{nil, {}, make([]api.Obj, 0, 5)} {
			out, e := world.Set(made, bottom, none)
			wantWorld(t, "Set to nothing", out, e, nil)
			out, e = world.Set(w, top, none)
			wantWorld(t, "Set to nothing where there is none", out, e, nil)
			if world.Right([]api.Part{{Label: bottom, L: none}}) {
				t.Error("Right of a part without an object: true")
			}
			if !world.Same([]api.Part{{Label: bottom, L: none}}, []api.Part{{Label: bottom}}) {
				t.Error("Same of nil lists and empty ones: false")
			}
		}
	}
	for _, items := range [][]string{nil, {}, make([]string, 0, 5)} {
		l := []api.Obj{{Name: "a", Kind: api.KindFile, Ring: api.Ring{L: items}}, ringOf("b", 5, items...)}
		made, e := world.Set(nil, top, l)
		wantWorld(t, "Set", made, e, []api.Part{{Label: top, L: []api.Obj{fileOf("a", ""), ringOf("b", 5)}}})
		if !world.Same(made, []api.Part{{Label: top, L: l}}) {
			t.Error("Same of nil lists and empty ones: false")
		}
	}
}
