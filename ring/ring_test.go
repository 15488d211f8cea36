package ring_test

import (
	"math"
	"slices"
	"strings"
	"testing"

	"plimsoll/api"
	"plimsoll/ring"
)

// rightMax are such as a ring may have, wrongMax such as none has: the nearest ones, those that are one modulo 2^8, 2^16 or 2^32, the utmost.
var (
	rightMax = []int{0, 1, 2, 5, 200, 201, 255, 256, 1000, 1999, 2000}
	wrongMax = []int{-1, -2, -2000, 2001, 2002, 1 << 16, 1<<16 + 5, 1 << 32, 1<<32 + 5, 1<<32 + 2000, -1 << 32, -1<<32 + 5, math.MinInt, math.MinInt + 1, math.MaxInt, math.MaxInt - 1}
)

// long is a text of n bytes: an item, if they are not too many.
func long(n int) string {
	return strings.Repeat("x", n)
}

// noItems have too many bytes; some have no more than 200 runes, and some no more than 200 bytes modulo 256.
func noItems() []string {
	return []string{long(201), long(202), long(255), long(256), long(257), long(456), long(2000), long(65536), strings.Repeat("é", 101), strings.Repeat("\x00", 201), strings.Repeat("\xff", 201)}
}

// someItems are of all kinds of bytes: a text is bytes, whatever they are.
func someItems() []string {
	return []string{"", "a", "ab", "", "\x00", "\xff\xfe", "é", "a\nb", "\xc3", long(200), strings.Repeat("é", 100), strings.Repeat("\xff", 200), "ab", "end"}
}

// weigh is what the items take, by their bytes all in one.
func weigh(l []string) int {
	return len(strings.Join(l, "")) + len(l)
}

// empties are n items that take one byte each.
func empties(n int) []string {
	return make([]string, n)
}

// rightRings are some of all sizes, those among them that are full to the last byte.
func rightRings() []api.Ring {
	l := someItems()
	all := []api.Ring{
		{}, {L: []string{}}, {Max: 1}, {Max: 2000},
		{Max: 1, L: []string{""}}, {Max: 2, L: []string{""}}, {Max: 2, L: []string{"a"}}, {Max: 3, L: empties(3)}, {Max: 5, L: []string{"ab", "c"}}, {Max: 201, L: []string{long(200)}}, {Max: 402, L: []string{long(200), long(200)}}, {Max: 403, L: []string{long(200), "", long(200)}},
		{Max: 2000, L: empties(1999)}, {Max: 2000, L: empties(2000)}, {Max: 2000, L: slices.Repeat([]string{"a"}, 1000)}, {Max: 2000, L: slices.Repeat([]string{long(199)}, 10)},
	}
	for i := range l {
		all = append(all, api.Ring{Max: weigh(l[i:]), L: l[i:]}, api.Ring{Max: weigh(l[i:]) + 1, L: l[i:]}, api.Ring{Max: 2000, L: l[:i]})
	}
	return all
}

// wrongRings are such that each breaks one thing of a ring's: its Max, one of its items, what they take together.
func wrongRings() []api.Ring {
	var all []api.Ring
	for _, max := range wrongMax {
		all = append(all, api.Ring{Max: max}, api.Ring{Max: max, L: []string{}}, api.Ring{Max: max, L: []string{""}}, api.Ring{Max: max, L: []string{"ab", "c"}})
	}
	for _, x := range noItems() {
		for i := range 4 {
			all = append(all, api.Ring{Max: 2000, L: slices.Insert([]string{"", "a", "bc"}, i, x)})
		}
		all = append(all, api.Ring{Max: 2000, L: []string{x}}, api.Ring{Max: 2000, L: []string{x, x}})
	}
	for _, r := range rightRings() {
		if len(r.L) > 0 {
			all = append(all, api.Ring{Max: weigh(r.L) - 1, L: r.L})
		}
	}
	all = append(all, api.Ring{L: []string{""}}, api.Ring{Max: 2000, L: empties(2001)}, api.Ring{Max: 2000, L: empties(1 << 16)}, api.Ring{Max: 2000, L: empties(1 << 20)}, api.Ring{Max: 2000, L: slices.Repeat([]string{long(200)}, 10)})
	return append(all, api.Ring{Max: 255, L: empties(256)}, api.Ring{Max: 1999, L: slices.Repeat([]string{long(199)}, 10)})
}

func wantRing(t *testing.T, what string, r api.Ring, e api.Errno, max int, l []string) {
	t.Helper()
	if r.Max != max || !slices.Equal(r.L, l) || e != api.OK {
		t.Fatalf("%s: %d, %q, %d; want %d, %q, OK", what, r.Max, r.L, e, max, l)
	}
}

func wantError(t *testing.T, what string, r api.Ring, e api.Errno, want api.Errno) {
	t.Helper()
	if r.Max != 0 || len(r.L) != 0 || e != want {
		t.Fatalf("%s: %d, %q, %d; want nothing, %d", what, r.Max, r.L, e, want)
	}
}

func wantNoItem(t *testing.T, what string, item string, r api.Ring, e api.Errno, want api.Errno) {
	t.Helper()
	if item != "" {
		t.Fatalf("%s: item %q; want none", what, item)
	}
	wantError(t, what, r, e, want)
}

// The chapter's example

func TestExample(t *testing.T) {
	r, e := ring.New(5)
	wantRing(t, "a ring of 5", r, e, 5, nil)
	r, e = ring.Put(r, "ab")
	wantRing(t, "ab", r, e, 5, []string{"ab"})
	if n := ring.Used(r); n != 3 {
		t.Errorf("ab takes %d; want 3", n)
	}
	r, e = ring.Put(r, "c")
	wantRing(t, "c", r, e, 5, []string{"ab", "c"})
	if n := ring.Used(r); n != 5 {
		t.Errorf("ab and c take %d; want 5", n)
	}
	r, e = ring.Put(r, "d")
	wantError(t, "d", r, e, api.ErrFull)
}

// P8.1

func TestNew(t *testing.T) {
	for max := range 2001 {
		r, e := ring.New(max)
		wantRing(t, "New", r, e, max, nil)
		if !ring.Right(r) || ring.Used(r) != 0 {
			t.Errorf("New of %d: not right, or not empty", max)
		}
	}
	for _, max := range wrongMax {
		r, e := ring.New(max)
		wantError(t, "New of a wrong max", r, e, api.ErrArg)
	}
}

func TestRightAndUsed(t *testing.T) {
	for i, r := range rightRings() {
		if !ring.Right(r) {
			t.Errorf("Right of ring %d: false", i)
		}
		if n := ring.Used(r); n != weigh(r.L) {
			t.Errorf("Used of ring %d: %d; want %d", i, n, weigh(r.L))
		}
	}
	for i, r := range wrongRings() {
		if ring.Right(r) {
			t.Errorf("Right of no ring, %d: true", i)
		}
		if n := ring.Used(r); n != 0 {
			t.Errorf("Used of no ring, %d: %d; want 0", i, n)
		}
	}
}

// TestOneItem holds each length of an item against each Max.
func TestOneItem(t *testing.T) {
	for _, max := range rightMax {
		for n := range 300 {
			r := api.Ring{Max: max, L: []string{long(n)}}
			right, used := n <= 200 && n+1 <= max, 0
			if right {
				used = n + 1
			}
			if ring.Right(r) != right || ring.Used(r) != used {
				t.Fatalf("an item of %d in a ring of %d: %t, %d; want %t, %d", n, max, ring.Right(r), ring.Used(r), right, used)
			}
		}
	}
}

func TestSame(t *testing.T) {
	ab := api.Ring{Max: 9, L: []string{"a", "b"}}
	for _, b := range []api.Ring{
		{}, {Max: 9}, {Max: 8, L: ab.L}, {Max: 10, L: ab.L}, {Max: -9, L: ab.L}, {Max: 9 + 1<<32, L: ab.L},
		{Max: 9, L: []string{"a"}}, {Max: 9, L: []string{"b"}}, {Max: 9, L: []string{"b", "a"}}, {Max: 9, L: []string{"a", "b", ""}}, {Max: 9, L: []string{"", "a", "b"}},
		{Max: 9, L: []string{"a", "c"}}, {Max: 9, L: []string{"c", "b"}}, {Max: 9, L: []string{"ab"}}, {Max: 9, L: []string{"ab", ""}}, {Max: 9, L: []string{"", "ab"}}, {Max: 9, L: []string{"a", "B"}}, {Max: 9, L: []string{"a", "b\x00"}},
	} {
		if ring.Same(ab, b) || ring.Same(b, ab) {
			t.Errorf("Same of %v and %v: true", ab, b)
		}
	}
	if ring.Same(api.Ring{}, api.Ring{Max: 1}) || ring.Same(api.Ring{}, api.Ring{L: []string{""}}) || ring.Same(api.Ring{L: []string{"\xff"}}, api.Ring{L: []string{"\xfe"}}) {
		t.Error("Same of rings that differ: true")
	}
	for i, a := range append(rightRings(), wrongRings()...) {
		b := api.Ring{Max: a.Max, L: slices.Clone(a.L)}
		if !ring.Same(a, b) || !ring.Same(b, a) {
			t.Errorf("Same of ring %d and another one like it: false", i)
		}
	}
	if !ring.Same(api.Ring{Max: 3}, api.Ring{Max: 3, L: []string{}}) || !ring.Same(api.Ring{Max: -3, L: []string{}}, api.Ring{Max: -3}) {
		t.Error("Same of a nil list and an empty one: false")
	}
}

// P8.2

// TestPut holds each item against each ring, by what both take.
func TestPut(t *testing.T) {
	for _, r := range rightRings() {
		for _, item := range someItems() {
			made, e := ring.Put(r, item)
			if weigh(r.L)+len(item)+1 > r.Max {
				wantError(t, "Put of what takes too much", made, e, api.ErrFull)
				continue
			}
			wantRing(t, "Put", made, e, r.Max, append(slices.Clone(r.L), item))
		}
	}
}

func TestPutAtTheEdge(t *testing.T) {
	for n := range 201 {
		for _, l := range [][]string{nil, {""}, {"ab"}, {long(200), "c", ""}} {
			used := weigh(l)
			r, e := ring.Put(api.Ring{Max: used + n + 1, L: l}, long(n))
			wantRing(t, "Put of what just fits", r, e, used+n+1, append(slices.Clone(l), long(n)))
			r, e = ring.Put(api.Ring{Max: used + n, L: l}, long(n))
			wantError(t, "Put of what takes one byte too much", r, e, api.ErrFull)
		}
	}
}

// TestPutWrong: ErrArg is named ahead of ErrFull, so that no item is ErrArg even where it would take too much.
func TestPutWrong(t *testing.T) {
	for _, r := range rightRings() {
		for _, item := range noItems() {
			made, e := ring.Put(r, item)
			wantError(t, "Put of no item", made, e, api.ErrArg)
		}
	}
	for _, r := range wrongRings() {
		for _, item := range []string{"", "a", long(200), long(201), long(3000)} {
			made, e := ring.Put(r, item)
			wantError(t, "Put into no ring", made, e, api.ErrArg)
		}
	}
}

func TestTake(t *testing.T) {
	for _, r := range rightRings() {
		item, rest, e := ring.Take(r)
		if len(r.L) == 0 {
			wantNoItem(t, "Take of none", item, rest, e, api.ErrEmpty)
			continue
		}
		if item != r.L[0] {
			t.Fatalf("Take: item %q; want %q", item, r.L[0])
		}
		wantRing(t, "Take", rest, e, r.Max, r.L[1:])
	}
	for _, max := range rightMax {
		item, rest, e := ring.Take(api.Ring{Max: max})
		wantNoItem(t, "Take of an empty ring", item, rest, e, api.ErrEmpty)
	}
	for _, r := range wrongRings() {
		item, rest, e := ring.Take(r)
		wantNoItem(t, "Take of no ring", item, rest, e, api.ErrArg)
	}
}

// TestTakeOfAnEmptyItem: an empty item is one.
func TestTakeOfAnEmptyItem(t *testing.T) {
	item, rest, e := ring.Take(api.Ring{Max: 1, L: []string{""}})
	if item != "" {
		t.Errorf("Take: item %q; want an empty one", item)
	}
	wantRing(t, "Take of an empty item", rest, e, 1, nil)
}

// TestAll holds All against Put, one by one.
func TestAll(t *testing.T) {
	lists := [][]string{
		nil, {}, {""}, {"a"}, {"", "a", "bc", ""}, empties(2000), empties(2001), slices.Repeat([]string{long(200)}, 11), someItems(),
		{"a", long(300), "b"}, {long(201)}, {long(201), "a"}, {"a", "b", long(201)}, {"a", long(200), ""}, {long(200), "a"},
	}
	for _, r := range rightRings() {
		for _, l := range lists {
			want, count := r, 0
			for _, item := range l {
				next, e := ring.Put(want, item)
				if e != api.OK {
					break
				}
				want, count = next, count+1
			}
			made, n, e := ring.All(r, l)
			if n != count {
				t.Fatalf("All: %d; want %d", n, count)
			}
			wantRing(t, "All", made, e, r.Max, want.L)
		}
	}
}

// TestAllStops: what would fit behind the first that can't be put in stays out, and neither too much nor no item is an error.
func TestAllStops(t *testing.T) {
	for _, x := range []struct {
		r    api.Ring
		l    []string
		want []string
		n    int
	}{
		{api.Ring{Max: 5}, []string{"", "a", "bc", ""}, []string{"", "a"}, 2},
		{api.Ring{Max: 5}, []string{"ab", "c", "d"}, []string{"ab", "c"}, 2},
		{api.Ring{Max: 5}, []string{"abcde", "", "a"}, nil, 0},
		{api.Ring{Max: 5}, []string{"abcd"}, []string{"abcd"}, 1},
		{api.Ring{Max: 5, L: []string{"z"}}, []string{"a", "", ""}, []string{"z", "a", ""}, 2},
		{api.Ring{Max: 5, L: []string{"z"}}, []string{"abc", ""}, []string{"z"}, 0},
		{api.Ring{Max: 2000, L: []string{"z"}}, []string{"a", long(201), "b"}, []string{"z", "a"}, 1},
		{api.Ring{Max: 2000}, []string{long(201), "b"}, nil, 0},
		{api.Ring{}, []string{""}, nil, 0},
		{api.Ring{}, nil, nil, 0},
		{api.Ring{Max: 2000}, empties(1 << 20), empties(2000), 2000},
		{api.Ring{Max: 2000, L: empties(1000)}, empties(1 << 20), empties(2000), 1000},
		{api.Ring{Max: 2000}, slices.Repeat([]string{long(200)}, 10), slices.Repeat([]string{long(200)}, 9), 9},
	} {
		made, n, e := ring.All(x.r, x.l)
		wantRing(t, "All", made, e, x.r.Max, x.want)
		if n != x.n {
			t.Errorf("All: %d; want %d", n, x.n)
		}
	}
}

func TestAllWrong(t *testing.T) {
	for _, r := range wrongRings() {
		for _, l := range [][]string{nil, {}, {""}, {"a", "b"}, {long(201)}} {
			made, n, e := ring.All(r, l)
			if n != 0 {
				t.Fatalf("All of no ring: %d; want 0", n)
			}
			wantError(t, "All of no ring", made, e, api.ErrArg)
		}
	}
}

// P8.3

// TestInOrder puts and takes by turns, and holds the ring against one text with all items in it, each behind its length.
func TestInOrder(t *testing.T) {
	items := someItems()
	for _, max := range rightMax {
		r, e := ring.New(max)
		wantRing(t, "New", r, e, max, nil)
		text, seed, in, out := "", uint32(max), 0, 0
		for range 3000 {
			seed = seed*1664525 + 1013904223
			if seed>>30 == 0 {
				item, rest, e := ring.Take(r)
				if text == "" {
					wantNoItem(t, "Take", item, rest, e, api.ErrEmpty)
					continue
				}
				n := int(text[0])
				if item != text[1:1+n] || e != api.OK {
					t.Fatalf("Take: %q, %d; want %q, OK", item, e, text[1:1+n])
				}
				r, text, out = rest, text[1+n:], out+1
				continue
			}
			item := items[int(seed>>8)%len(items)]
			made, e := ring.Put(r, item)
			if len(text)+1+len(item) > max {
				wantError(t, "Put", made, e, api.ErrFull)
				continue
			}
			if e != api.OK {
				t.Fatalf("Put: %d; want OK", e)
			}
			r, text, in = made, text+string([]byte{byte(len(item))})+item, in+1
			if ring.Used(r) != len(text) || !ring.Right(r) || r.Max != max || len(r.L) != in-out {
				t.Fatalf("behind Put: %d used of %d, %d items; want %d, %d", ring.Used(r), r.Max, len(r.L), len(text), in-out)
			}
		}
		if max > 0 && (in == 0 || out == 0) {
			t.Errorf("ring of %d: %d in, %d out", max, in, out)
		}
	}
}

func TestAllComeOut(t *testing.T) {
	for _, r := range rightRings() {
		for _, want := range r.L {
			item, rest, e := ring.Take(r)
			if item != want || e != api.OK {
				t.Fatalf("Take: %q, %d; want %q, OK", item, e, want)
			}
			r = rest
		}
		item, rest, e := ring.Take(r)
		wantNoItem(t, "Take behind the last", item, rest, e, api.ErrEmpty)
	}
}

// R3

// roomy has spare room behind its items, and in it what must stay.
func roomy(max int, l ...string) (api.Ring, []string) {
	all := append(slices.Clone(l), "spare", "room")
	return api.Ring{Max: max, L: all[:len(l)]}, all
}

// TestNothingHandedInIsWritten: neither items, nor the spare room behind them.
func TestNothingHandedInIsWritten(t *testing.T) {
	for _, l := range [][]string{{}, {"a"}, {"a", "b", "c"}} {
		r, all := roomy(100, l...)
		more, allMore := roomy(100, "x", "y", long(201), "z")
		was, wasMore := slices.Clone(all), slices.Clone(allMore)
		ring.Put(r, "new")
		ring.Put(r, long(201))
		ring.Take(r)
		ring.All(r, more.L)
		ring.All(r, nil)
		ring.Right(r)
		ring.Used(r)
		ring.Same(r, more)
		if !slices.Equal(all, was) || !slices.Equal(allMore, wasMore) {
			t.Errorf("handed in %q, %q; behind it %q, %q", was, wasMore, all, allMore)
		}
	}
}

// scribble writes into a ring's items, and into the spare room behind them.
func scribble(r api.Ring) {
	l := r.L[:cap(r.L)]
	for i := range l {
		l[i] = "scribble"
	}
}

// TestAnswersAreNewMemory: what is written into an answer, or its spare room, is not seen in what was handed in, nor in another answer, nor the other way round.
func TestAnswersAreNewMemory(t *testing.T) {
	for _, l := range [][]string{{}, {"a"}, {"a", "b", "c"}} {
		r, all := roomy(100, l...)
		more, allMore := roomy(100, "x", "y", "z")
		was, wasMore := slices.Clone(all), slices.Clone(allMore)
		var answers []api.Ring
		answer := func(r api.Ring) { answers = append(answers, r) }
		for range 2 {
			put, _ := ring.Put(r, "new")
			answer(put)
			again, _ := ring.Put(put, "newer")
			answer(again)
			_, rest, _ := ring.Take(r)
			answer(rest)
			_, rest, _ = ring.Take(put)
			answer(rest)
			for _, items := range [][]string{nil, {}, {long(201)}, more.L, more.L[:1]} {
				made, _, _ := ring.All(r, items)
				answer(made)
				made, _, _ = ring.All(api.Ring{Max: 100}, items)
				answer(made)
			}
		}
		for i, a := range answers {
			others := make([][]string, len(answers))
			for j, b := range answers {
				others[j] = slices.Clone(b.L[:cap(b.L)])
			}
			scribble(a)
			for j, b := range answers {
				if i != j && !slices.Equal(b.L[:cap(b.L)], others[j]) {
					t.Errorf("answer %d shares memory with answer %d", j, i)
				}
			}
		}
		if !slices.Equal(all, was) || !slices.Equal(allMore, wasMore) {
			t.Errorf("an answer shares memory with what was handed in: %q, %q", all, allMore)
		}
	}
}

func TestNothingHandedInIsKept(t *testing.T) {
	r, more := api.Ring{Max: 100, L: []string{"a", "b"}}, []string{"x", "y"}
	put, _ := ring.Put(r, "c")
	_, rest, _ := ring.Take(r)
	made, _, _ := ring.All(r, more)
	whole, _, _ := ring.All(api.Ring{Max: 100}, more)
	same, _, _ := ring.All(r, nil)
	clear(r.L)
	clear(more)
	wantRing(t, "Put", put, api.OK, 100, []string{"a", "b", "c"})
	wantRing(t, "Take", rest, api.OK, 100, []string{"b"})
	wantRing(t, "All", made, api.OK, 100, []string{"a", "b", "x", "y"})
	wantRing(t, "All into an empty ring", whole, api.OK, 100, []string{"x", "y"})
	wantRing(t, "All of nothing", same, api.OK, 100, []string{"a", "b"})
}

// TestNilAndEmptyAreOne: lists of a ring, and lists of items.
func TestNilAndEmptyAreOne(t *testing.T) {
	for _, r := range []api.Ring{{Max: 5}, {Max: 5, L: []string{}}, {Max: 5, L: make([]string, 0, 4)}} {
		if !ring.Right(r) || ring.Used(r) != 0 {
			t.Errorf("an empty ring: %t, %d; want true, 0", ring.Right(r), ring.Used(r))
		}
		made, e := ring.Put(r, "a")
		wantRing(t, "Put", made, e, 5, []string{"a"})
		item, rest, e := ring.Take(r)
		wantNoItem(t, "Take", item, rest, e, api.ErrEmpty)
		for _, l := range [][]string{nil, {}} {
			made, n, e := ring.All(r, l)
			wantRing(t, "All", made, e, 5, nil)
			if n != 0 {
				t.Errorf("All of nothing: %d; want 0", n)
			}
		}
	}
}

// TestOneRingTwice: a list may be handed in twice at once.
func TestOneRingTwice(t *testing.T) {
	r := api.Ring{Max: 10, L: []string{"a", "b"}}
	made, n, e := ring.All(r, r.L)
	wantRing(t, "All of its own items", made, e, 10, []string{"a", "b", "a", "b"})
	if n != 2 || !ring.Same(r, r) || !slices.Equal(r.L, []string{"a", "b"}) {
		t.Errorf("All of its own items: %d, and behind it %q", n, r.L)
	}
}
