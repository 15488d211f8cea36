package ledger_test

import (
	"maps"
	"math"
	"math/bits"
	"slices"
	"testing"

	"plimsoll/api"
	"plimsoll/ledger"
)

const full = math.MaxUint64

var (
	bottom = api.Label{Level: 0, Cats: 0, Integ: 7}
	top    = api.Label{Level: 15, Cats: full, Integ: 0}
)

// wrong are no labels: the nearest ones, those that are one modulo 8, 16, 256 or 2^32, the utmost.
var wrong = []api.Label{
	{Level: -1}, {Level: 16}, {Integ: -1}, {Integ: 8},
	{Level: -1, Cats: full, Integ: 7}, {Level: 16, Cats: 1, Integ: 7}, {Level: 15, Cats: 1, Integ: 8}, {Level: 15, Integ: -1},
	{Level: 256}, {Integ: 256}, {Level: 1 << 32}, {Integ: 1 << 32}, {Level: -1 << 32}, {Integ: -1 << 32},
	{Level: math.MinInt}, {Level: math.MaxInt}, {Integ: math.MinInt}, {Integ: math.MaxInt},
}

// wrongUsed can't be what a line has.
var wrongUsed = []int{0, -1, -5, -100000, 100001, 100002, 1 << 32, 1<<32 + 1, -1<<32 + 1, math.MinInt, math.MinInt + 1, math.MaxInt}

// some labels, by the total order, which differ in one number, in two, or in all: many of them are not under each other.
func some() []api.Label {
	var l []api.Label
	for _, level := range []int{0, 1, 15} {
		for _, s := range []uint64{0, 1, 2, 3, full >> 1, 1 << 63, full} {
			for _, integ := range []int{0, 5, 7} {
				l = append(l, api.Label{Level: level, Cats: s, Integ: integ})
			}
		}
	}
	return l
}

// lines has a line for each label; no two of the first hundred have the same.
func lines(labels ...api.Label) []api.Line {
	var l []api.Line
	for i, a := range labels {
		l = append(l, api.Line{Label: a, Used: 1 + i*7%101})
	}
	return l
}

// many is a ledger of n lines, each of which has so much.
func many(n, used int) []api.Line {
	var l []api.Line
	for i := range n {
		l = append(l, api.Line{Label: api.Label{Level: 1, Cats: uint64(2 * i), Integ: 3}, Used: used})
	}
	return l
}

// noLedgers are such that each breaks one thing of a ledger's, at its first line, in the middle, at its last one.
func noLedgers() [][]api.Line {
	l := lines(some()...)
	all := [][]api.Line{many(1001, 1), many(1002, 1), many(5000, 1)}
	for _, i := range []int{0, 1, len(l) / 2, len(l) - 1} {
		for _, a := range wrong {
			c := slices.Clone(l)
			c[i].Label = a
			all = append(all, c)
		}
		for _, used := range wrongUsed {
			c := slices.Clone(l)
			c[i].Used = used
			all = append(all, c)
		}
		all = append(all, slices.Insert(slices.Clone(l), i, l[i]))
		if i > 0 {
			c := slices.Clone(l)
			c[i-1], c[i] = c[i], c[i-1]
			all = append(all, c)
		}
	}
	for _, a := range wrong {
		all = append(all, []api.Line{{Label: a, Used: 1}}, []api.Line{{Label: a}})
	}
	for _, used := range wrongUsed {
		all = append(all, []api.Line{{Label: bottom, Used: used}})
	}
	reversed := slices.Clone(l)
	slices.Reverse(reversed)
	return append(all, reversed, []api.Line{{}})
}

func wantLines(t *testing.T, what string, l []api.Line, e api.Errno, want []api.Line) {
	t.Helper()
	if !slices.Equal(l, want) || e != api.OK {
		t.Fatalf("%s: %v, %d; want %v, OK", what, l, e, want)
	}
}

func wantError(t *testing.T, what string, l []api.Line, e api.Errno, want api.Errno) {
	t.Helper()
	if len(l) != 0 || e != want {
		t.Fatalf("%s: %v, %d; want nothing, %d", what, l, e, want)
	}
}

// The chapter's example

func TestExample(t *testing.T) {
	l, e := ledger.Charge(nil, 100, bottom, 5)
	wantLines(t, "5 to the bottom", l, e, []api.Line{{Label: bottom, Used: 5}})
	l, e = ledger.Charge(l, 100, bottom, 3)
	wantLines(t, "3 more", l, e, []api.Line{{Label: bottom, Used: 8}})
	l, e = ledger.Refund(l, bottom, 8)
	wantLines(t, "8 back", l, e, nil)
}

// P7.1

func TestRight(t *testing.T) {
	for i, l := range [][]api.Line{
		nil,
		{},
		{{Label: bottom, Used: 1}},
		{{Label: top, Used: 100000}},
		{{Label: api.Label{}, Used: 99999}},
		lines(some()...),
		// They rise by the total order, though none is under the next one, or each next one is under the one ahead.
		{{Label: api.Label{Cats: 1}, Used: 1}, {Label: api.Label{Cats: 2}, Used: 1}},
		{{Label: api.Label{Integ: 0}, Used: 2}, {Label: api.Label{Integ: 1}, Used: 1}},
		{{Label: api.Label{Cats: full, Integ: 7}, Used: 1}, {Label: api.Label{Level: 1}, Used: 1}},
		{{Label: api.Label{Cats: 1, Integ: 7}, Used: 1}, {Label: api.Label{Cats: 2}, Used: 1}},
		{{Label: api.Label{Cats: full >> 1}, Used: 1}, {Label: api.Label{Cats: 1 << 63}, Used: 1}},
		many(999, 1),
		many(1000, 1),
		many(1000, 100000),
	} {
		if !ledger.Right(l) {
			t.Errorf("Right of ledger %d: false", i)
		}
	}
	for i, l := range noLedgers() {
		if ledger.Right(l) {
			t.Errorf("Right of no ledger, %d: true", i)
		}
	}
}

// TestRightOfTwo holds each two labels against each other by their numbers.
func TestRightOfTwo(t *testing.T) {
	for i, a := range some() {
		for j, b := range some() {
			if got := ledger.Right([]api.Line{{Label: a, Used: 1}, {Label: b, Used: 1}}); got != (i < j) {
				t.Errorf("Right of %v, %v: %t", a, b, got)
			}
		}
	}
}

func TestUsed(t *testing.T) {
	l := lines(some()...)
	for _, line := range l {
		if n := ledger.Used(l, line.Label); n != line.Used {
			t.Errorf("Used of %v: %d; want %d", line.Label, n, line.Used)
		}
	}
	for i, line := range l {
		if n := ledger.Used(slices.Delete(slices.Clone(l), i, i+1), line.Label); n != 0 {
			t.Errorf("Used of %v, without its line: %d; want 0", line.Label, n)
		}
	}
	for _, a := range append(some(), wrong...) {
		if n := ledger.Used(nil, a); n != 0 {
			t.Errorf("Used of %v, of no lines: %d; want 0", a, n)
		}
	}
	for _, a := range wrong {
		if n := ledger.Used(l, a); n != 0 {
			t.Errorf("Used of %v: %d; want 0", a, n)
		}
	}
}

// TestUsedOfWhatIsNoLedger: the first line counts, wherever it stands, and whatever it has.
func TestUsedOfWhatIsNoLedger(t *testing.T) {
	a, b := api.Label{Level: 3, Cats: 1, Integ: 5}, api.Label{Level: 2, Cats: 2, Integ: 6}
	for _, x := range []struct {
		l    []api.Line
		a    api.Label
		want int
	}{
		{[]api.Line{{Label: a, Used: 4}, {Label: a, Used: 5}}, a, 4},
		{[]api.Line{{Label: a, Used: 4}, {Label: b, Used: 5}, {Label: b, Used: 6}, {Label: a, Used: 7}}, b, 5},
		{[]api.Line{{Label: a, Used: 0}, {Label: a, Used: 5}}, a, 0},
		{[]api.Line{{Label: top, Used: 1}, {Label: b, Used: -3}, {Label: bottom, Used: 2}}, b, -3},
		{[]api.Line{{Label: top, Used: 1}, {Label: b, Used: math.MaxInt}, {Label: bottom, Used: 2}}, bottom, 2},
		{[]api.Line{{Label: b, Used: math.MaxInt}}, b, math.MaxInt},
		{[]api.Line{{Label: b, Used: math.MinInt}}, b, math.MinInt},
		{[]api.Line{{Label: api.Label{Level: 16}, Used: 8}}, api.Label{Level: 16}, 8},
		{append(many(5000, 2), api.Line{Label: a, Used: 9}), a, 9},
	} {
		if n := ledger.Used(x.l, x.a); n != x.want {
			t.Errorf("Used of %v: %d; want %d", x.a, n, x.want)
		}
	}
}

// liesUnder goes by the words of chapter 2, category by category.
func liesUnder(a, b api.Label) bool {
	for i := range 64 {
		if a.Cats>>i%2 == 1 && b.Cats>>i%2 == 0 {
			return false
		}
	}
	return a.Level <= b.Level && a.Integ >= b.Integ
}

func TestSeen(t *testing.T) {
	l := lines(some()...)
	reversed := slices.Clone(l)
	slices.Reverse(reversed)
	for _, a := range append(some(), api.Label{Level: 7, Cats: 3, Integ: 6}) {
		// A list of lines that is no ledger has its lines seen in its own order.
		for _, l := range [][]api.Line{l, reversed, slices.Concat(l, reversed, l)} {
			var want []api.Line
			for _, line := range l {
				if liesUnder(line.Label, a) {
					want = append(want, line)
				}
			}
			if got := ledger.Seen(l, a); !slices.Equal(got, want) {
				t.Errorf("Seen from %v: %v; want %v", a, got, want)
			}
		}
	}
	if got := ledger.Seen(l, top); !slices.Equal(got, l) {
		t.Errorf("Seen from the top: %v", got)
	}
	if got := ledger.Seen(many(1000, 1), top); !slices.Equal(got, many(1000, 1)) {
		t.Errorf("Seen of 1000 from the top: %d lines", len(got))
	}
}

func TestSeenOfWhatIsNoLabel(t *testing.T) {
	l := lines(some()...)
	for _, a := range wrong {
		if got := ledger.Seen(l, a); len(got) != 0 {
			t.Errorf("Seen from %v: %v; want none", a, got)
		}
		if got := ledger.Seen([]api.Line{{Label: a, Used: 1}}, a); len(got) != 0 {
			t.Errorf("Seen from %v, of its own line: %v; want none", a, got)
		}
		if got := ledger.Seen([]api.Line{{Label: a, Used: 1}, {Label: bottom, Used: 2}}, top); !slices.Equal(got, []api.Line{{Label: bottom, Used: 2}}) {
			t.Errorf("Seen from the top, beside a line of %v: %v", a, got)
		}
		if got := ledger.Seen(nil, a); len(got) != 0 {
			t.Errorf("Seen of none: %v", got)
		}
	}
	odd := []api.Line{{Label: bottom, Used: -1}, {Label: bottom, Used: 0}, {Label: bottom, Used: math.MaxInt}}
	if got := ledger.Seen(odd, bottom); !slices.Equal(got, odd) {
		t.Errorf("Seen of lines that have what can't be charged: %v; want %v", got, odd)
	}
}

func TestTotal(t *testing.T) {
	for _, x := range []struct {
		l    []api.Line
		want int
	}{
		{nil, 0},
		{[]api.Line{}, 0},
		{[]api.Line{{Label: bottom, Used: 1}}, 1},
		{[]api.Line{{Label: bottom, Used: 100000}, {Label: top, Used: 1}}, 100001},
		{[]api.Line{{Label: bottom, Used: 3}, {Label: api.Label{Level: 1}, Used: 10}, {Label: top, Used: 11}}, 24},
		{many(1000, 1), 1000},
		{many(1000, 100000), 100000000},
	} {
		if n := ledger.Total(x.l); n != x.want {
			t.Errorf("Total of %d lines: %d; want %d", len(x.l), n, x.want)
		}
	}
	for i, l := range noLedgers() {
		if n := ledger.Total(l); n != 0 {
			t.Errorf("Total of no ledger, %d: %d; want 0", i, n)
		}
	}
}

func TestSame(t *testing.T) {
	if !ledger.Same(nil, nil) || !ledger.Same(nil, []api.Line{}) || !ledger.Same([]api.Line{}, nil) {
		t.Error("Same of none: false")
	}
	for i, l := range append(noLedgers(), lines(some()...), many(1000, 3)) {
		if !ledger.Same(l, slices.Clone(l)) {
			t.Errorf("Same of list %d and itself: false", i)
		}
	}
	l := lines(some()...)
	differ := func(what string, m []api.Line) {
		t.Helper()
		if ledger.Same(l, m) || ledger.Same(m, l) {
			t.Errorf("Same, %s: true", what)
		}
	}
	differ("of none", nil)
	differ("of one line more", append(slices.Clone(l), api.Line{}))
	for i := range l {
		differ("of fewer lines", l[:i])
		for _, change := range []func(*api.Line){
			func(x *api.Line) { x.Used++ },
			func(x *api.Line) { x.Used += 1 << 32 },
			func(x *api.Line) { x.Used = -x.Used },
			func(x *api.Line) { x.Label.Level += 256 },
			func(x *api.Line) { x.Label.Integ-- },
			func(x *api.Line) { x.Label.Cats ^= 1 << 63 },
			func(x *api.Line) { x.Label.Cats ^= 1 },
		} {
			m := slices.Clone(l)
			change(&m[i])
			differ("of a line that differs", m)
		}
		if i > 0 {
			m := slices.Clone(l)
			m[i-1], m[i] = m[i], m[i-1]
			differ("of another order", m)
		}
	}
}

// P7.2

func TestCharge(t *testing.T) {
	a, b := api.Label{Level: 1, Cats: 1, Integ: 5}, api.Label{Level: 1, Cats: 2, Integ: 5}
	l := []api.Line{{Label: a, Used: 4}, {Label: top, Used: 100000}}
	for _, x := range []struct {
		quota int
		a     api.Label
		n     int
		want  []api.Line
	}{
		{10, bottom, 1, []api.Line{{Label: bottom, Used: 1}, l[0], l[1]}},
		{10, bottom, 10, []api.Line{{Label: bottom, Used: 10}, l[0], l[1]}},
		{10, bottom, 0, l},
		{0, bottom, 0, l},
		{100000, bottom, 0, l},
		{100000, bottom, 100000, []api.Line{{Label: bottom, Used: 100000}, l[0], l[1]}},
		{10, a, 0, l},
		{4, a, 0, l},
		{5, a, 1, []api.Line{{Label: a, Used: 5}, l[1]}},
		{10, a, 6, []api.Line{{Label: a, Used: 10}, l[1]}},
		{100000, a, 99996, []api.Line{{Label: a, Used: 100000}, l[1]}},
		{10, b, 7, []api.Line{l[0], {Label: b, Used: 7}, l[1]}},
		{100000, top, 0, l},
	} {
		m, e := ledger.Charge(l, x.quota, x.a, x.n)
		wantLines(t, "Charge", m, e, x.want)
	}
}

func TestChargeBehindTheLast(t *testing.T) {
	l := []api.Line{{Label: bottom, Used: 2}}
	m, e := ledger.Charge(l, 10, top, 3)
	wantLines(t, "Charge", m, e, []api.Line{l[0], {Label: top, Used: 3}})
	m, e = ledger.Charge(nil, 10, top, 10)
	wantLines(t, "Charge", m, e, []api.Line{{Label: top, Used: 10}})
	for _, none := range [][]api.Line{nil, {}} {
		m, e = ledger.Charge(none, 0, top, 0)
		wantLines(t, "Charge of 0 to none", m, e, nil)
	}
}

func TestChargeOverQuota(t *testing.T) {
	a := api.Label{Level: 1, Cats: 1, Integ: 5}
	l := []api.Line{{Label: a, Used: 4}, {Label: top, Used: 100000}}
	for _, x := range []struct {
		quota int
		a     api.Label
		n     int
	}{
		{10, bottom, 11}, {0, bottom, 1}, {100000, bottom, 100001}, {10, bottom, math.MaxInt},
		{10, a, 7}, {4, a, 1}, {5, a, 2}, {100000, a, 99997}, {100000, a, 100000},
		// Together with what is used, these wrap round to what is small.
		{10, a, math.MaxInt}, {10, a, math.MaxInt - 3}, {100000, a, math.MaxInt - 4}, {100000, top, math.MaxInt},
		// More than the quota is used already.
		{3, a, 0}, {0, a, 0}, {3, a, 1}, {99999, top, 0}, {0, top, 0},
		{100000, top, 1},
		// Below 0 nothing is charged, even if enough is there.
		{10, a, -1}, {10, a, -4}, {10, a, -5}, {10, bottom, -1}, {0, bottom, -1}, {10, a, math.MinInt}, {100000, top, math.MinInt},
		{3, a, -1}, {100000, top, -1},
	} {
		m, e := ledger.Charge(l, x.quota, x.a, x.n)
		wantError(t, "Charge", m, e, api.ErrQuota)
	}
}

func TestChargeByNoQuota(t *testing.T) {
	l := []api.Line{{Label: api.Label{Level: 1}, Used: 4}}
	for _, quota := range []int{-1, -2, -100000, 100001, 100002, 1 << 32, 1<<32 + 10, -1<<32 + 10, math.MinInt, math.MinInt + 10, math.MaxInt} {
		for _, n := range []int{0, 1, 3, -1, 100000, math.MaxInt, math.MinInt} {
			for _, a := range []api.Label{bottom, {Level: 1}, top} {
				m, e := ledger.Charge(l, quota, a, n)
				wantError(t, "Charge", m, e, api.ErrQuota)
				m, e = ledger.Charge(nil, quota, a, n)
				wantError(t, "Charge", m, e, api.ErrQuota)
			}
		}
	}
}

func TestChargeNeedsRoom(t *testing.T) {
	for _, a := range []api.Label{bottom, {Level: 1, Cats: 77, Integ: 3}, {Level: 1, Cats: 78, Integ: 4}, top} {
		l := many(999, 2)
		l, e := ledger.Charge(l, 10, a, 1)
		if len(l) != 1000 || e != api.OK || ledger.Used(l, a) != 1 || !ledger.Right(l) {
			t.Fatalf("Charge of the last line that there is room for: %d lines, %d", len(l), e)
		}
		more, e := ledger.Charge(l, 10, a, 9)
		if len(more) != 1000 || e != api.OK || ledger.Used(more, a) != 10 {
			t.Fatalf("Charge to a line that is there: %d lines, %d", len(more), e)
		}
		full := many(1000, 2)
		for _, n := range []int{1, 2, 10} {
			m, e := ledger.Charge(full, 10, a, n)
			wantError(t, "Charge without room", m, e, api.ErrQuota)
		}
		m, e := ledger.Charge(full, 10, a, 0)
		wantLines(t, "Charge of 0 without room", m, e, full)
	}
	full := many(1000, 2)
	for _, i := range []int{0, 500, 999} {
		want := slices.Clone(full)
		want[i].Used = 10
		m, e := ledger.Charge(full, 10, full[i].Label, 8)
		wantLines(t, "Charge to a line of 1000", m, e, want)
	}
}

func TestRefund(t *testing.T) {
	a, b := api.Label{Level: 1, Cats: 1, Integ: 5}, api.Label{Level: 1, Cats: 2, Integ: 5}
	l := []api.Line{{Label: a, Used: 4}, {Label: b, Used: 1}, {Label: top, Used: 100000}}
	for _, x := range []struct {
		a    api.Label
		n    int
		want []api.Line
	}{
		{a, 0, l}, {b, 0, l}, {top, 0, l}, {bottom, 0, l},
		{a, 1, []api.Line{{Label: a, Used: 3}, l[1], l[2]}},
		{a, 3, []api.Line{{Label: a, Used: 1}, l[1], l[2]}},
		{a, 4, []api.Line{l[1], l[2]}},
		{b, 1, []api.Line{l[0], l[2]}},
		{top, 99999, []api.Line{l[0], l[1], {Label: top, Used: 1}}},
		{top, 100000, []api.Line{l[0], l[1]}},
	} {
		m, e := ledger.Refund(l, x.a, x.n)
		wantLines(t, "Refund", m, e, x.want)
	}
	for _, x := range []struct {
		a api.Label
		n int
	}{
		{a, 5}, {a, 6}, {b, 2}, {top, 100001}, {bottom, 1}, {api.Label{}, 4}, {a, math.MaxInt}, {bottom, math.MaxInt},
		{a, -1}, {a, -4}, {bottom, -1}, {top, -1}, {a, math.MinInt}, {bottom, math.MinInt},
	} {
		m, e := ledger.Refund(l, x.a, x.n)
		wantError(t, "Refund", m, e, api.ErrQuota)
	}
	for _, none := range [][]api.Line{nil, {}} {
		m, e := ledger.Refund(none, bottom, 0)
		wantLines(t, "Refund of 0 of none", m, e, nil)
		m, e = ledger.Refund(none, bottom, 1)
		wantError(t, "Refund of 1 of none", m, e, api.ErrQuota)
	}
}

// TestErrLabelFirst: what is no ledger, or no label, is told ahead of what is wrong with numbers.
func TestErrLabelFirst(t *testing.T) {
	numbers := []struct{ quota, n int }{{10, 1}, {10, 0}, {100000, 5}, {-1, 1}, {100001, 1}, {10, -1}, {10, 11}, {0, math.MaxInt}, {math.MinInt, math.MinInt}}
	for _, x := range numbers {
		for _, l := range noLedgers() {
			for _, a := range []api.Label{bottom, top, {Level: 1, Cats: 2, Integ: 5}, {Level: 16}} {
				m, e := ledger.Charge(l, x.quota, a, x.n)
				wantError(t, "Charge to no ledger", m, e, api.ErrLabel)
				m, e = ledger.Refund(l, a, x.n)
				wantError(t, "Refund of no ledger", m, e, api.ErrLabel)
			}
		}
		for _, a := range wrong {
			for _, l := range [][]api.Line{nil, lines(some()...), many(1000, 1)} {
				m, e := ledger.Charge(l, x.quota, a, x.n)
				wantError(t, "Charge to no label", m, e, api.ErrLabel)
				m, e = ledger.Refund(l, a, x.n)
				wantError(t, "Refund of no label", m, e, api.ErrLabel)
			}
		}
	}
}

// model keeps what each label has, without an order: another way than the program's.
type model map[api.Label]int

func (m model) charge(quota int, a api.Label, n int) api.Errno {
	if n < 0 || m[a]+n > quota {
		return api.ErrQuota
	}
	m[a] += n
	return api.OK
}

func (m model) refund(a api.Label, n int) api.Errno {
	if n < 0 || n > m[a] {
		return api.ErrQuota
	}
	m[a] -= n
	return api.OK
}

// ledger goes through all labels by the total order, and has a line where one has something.
func (m model) ledger(labels []api.Label) []api.Line {
	var l []api.Line
	for _, a := range labels {
		if m[a] > 0 {
			l = append(l, api.Line{Label: a, Used: m[a]})
		}
	}
	return l
}

// TestLongRuns goes without a pattern, and holds the program against the model at each step.
func TestLongRuns(t *testing.T) {
	x := uint64(0x9e3779b97f4a7c15)
	upTo := func(n int) int {
		x = bits.RotateLeft64(x*0xd1342543de82ef95+1, 23)
		return int(x % uint64(n))
	}
	labels := some()
	for _, quota := range []int{0, 1, 3, 20, 100000} {
		m, l := model{}, []api.Line(nil)
		for range 4000 {
			a, n := labels[upTo(len(labels))], upTo(min(quota, 8)+3)-1
			was := maps.Clone(m)
			var got []api.Line
			var e, want api.Errno
			if upTo(2) == 0 {
				got, e = ledger.Charge(l, quota, a, n)
				want = m.charge(quota, a, n)
			} else {
				got, e = ledger.Refund(l, a, n)
				want = m.refund(a, n)
			}
			if want != api.OK {
				wantError(t, "a step", got, e, want)
				if !maps.Equal(m, was) {
					t.Fatal("the model changed beside an error")
				}
				continue
			}
			wantLines(t, "a step", got, e, m.ledger(labels))
			l = got
			sum := 0
			for _, n := range m {
				sum += n
			}
			if !ledger.Right(l) || ledger.Total(l) != sum || ledger.Used(l, a) != m[a] {
				t.Fatalf("Right %t, Total %d, Used %d; want true, %d, %d", ledger.Right(l), ledger.Total(l), ledger.Used(l, a), sum, m[a])
			}
		}
	}
}

// P7.3

// ledgers are some of each kind: none, one line at either end, each second label, all, as many as there is room for.
func ledgers() [][]api.Line {
	var half []api.Label
	for i, a := range some() {
		if i%2 == 0 {
			half = append(half, a)
		}
	}
	return [][]api.Line{nil, lines(api.Label{}), lines(top), lines(half...), lines(some()...), many(998, 5), many(1000, 5)}
}

func TestWhatIsChargedIsRefunded(t *testing.T) {
	for _, l := range ledgers() {
		for _, a := range append(some(), api.Label{Level: 1, Cats: 40, Integ: 3}, api.Label{Level: 1, Cats: 41, Integ: 3}) {
			for _, n := range []int{0, 1, 2, 99000} {
				if ledger.Used(l, a) == 0 && n > 0 && len(l) == 1000 {
					continue
				}
				more, e := ledger.Charge(l, 100000, a, n)
				if e != api.OK || ledger.Used(more, a) != ledger.Used(l, a)+n || ledger.Total(more) != ledger.Total(l)+n || !ledger.Right(more) {
					t.Fatalf("Charge of %d to %v: %v, %d", n, a, more, e)
				}
				less, e := ledger.Refund(more, a, n)
				wantLines(t, "Refund of what was charged", less, e, l)
				// Bit by bit it comes back too.
				for _, part := range []int{n / 2, n - n/2} {
					more, e = ledger.Refund(more, a, part)
					if e != api.OK || !ledger.Right(more) {
						t.Fatalf("Refund of %d: %v, %d", part, more, e)
					}
				}
				wantLines(t, "Refund of both halves", more, e, l)
			}
		}
	}
}

func TestOtherLabelsStayAsTheyAre(t *testing.T) {
	others := append(some(), api.Label{Level: 1, Cats: 40, Integ: 3}, api.Label{Level: 1, Cats: 42, Integ: 3})
	hold := func(what string, was, is []api.Line, a api.Label) {
		t.Helper()
		for _, b := range others {
			if b != a && ledger.Used(is, b) != ledger.Used(was, b) {
				t.Fatalf("%s %v: %v has %d; had %d", what, a, b, ledger.Used(is, b), ledger.Used(was, b))
			}
		}
		not := func(line api.Line) bool { return line.Label == a }
		if !slices.Equal(slices.DeleteFunc(slices.Clone(is), not), slices.DeleteFunc(slices.Clone(was), not)) {
			t.Fatalf("%s %v: other lines changed", what, a)
		}
	}
	for _, l := range ledgers() {
		for _, a := range others {
			used := ledger.Used(l, a)
			for n := range used + 1 {
				m, e := ledger.Refund(l, a, n)
				if e != api.OK {
					t.Fatalf("Refund of %d of %d: %d", n, used, e)
				}
				hold("Refund of", l, m, a)
			}
			if used == 0 && len(l) == 1000 {
				continue
			}
			m, e := ledger.Charge(l, 100000, a, 12)
			if e != api.OK {
				t.Fatalf("Charge to %v: %d", a, e)
			}
			hold("Charge to", l, m, a)
		}
	}
}

// R3

// TestMemory hands in lists with spare room, and writes into all that is answered, its spare room too.
func TestMemory(t *testing.T) {
	mark := api.Line{Label: api.Label{Level: 9, Cats: 9, Integ: 2}, Used: 99}
	for _, kept := range append(ledgers(), noLedgers()[3:20]...) {
		room := append(slices.Clone(kept), mark, mark, mark)
		want := slices.Clone(room)
		l := room[:len(kept)]
		for _, a := range []api.Label{bottom, {}, {Level: 1, Cats: 1, Integ: 6}, top, {Level: 16}} {
			for _, call := range []func() []api.Line{
				func() []api.Line { m, _ := ledger.Charge(l, 100000, a, 1); return m },
				func() []api.Line { m, _ := ledger.Charge(l, 100000, a, 0); return m },
				func() []api.Line { m, _ := ledger.Charge(l, 0, a, 1); return m },
				func() []api.Line { m, _ := ledger.Refund(l, a, ledger.Used(l, a)); return m },
				func() []api.Line { m, _ := ledger.Refund(l, a, 0); return m },
				func() []api.Line { m, _ := ledger.Refund(l, a, 1); return m },
				func() []api.Line { return ledger.Seen(l, a) },
			} {
				first, second := call(), call()
				was := slices.Clone(second)
				for i := range first[:cap(first)] {
					first[:cap(first)][i] = api.Line{Label: api.Label{Level: -7}, Used: -7}
				}
				if !slices.Equal(room, want) {
					t.Fatalf("at %v: what was handed in was written into, or is shared", a)
				}
				if !slices.Equal(second, was) {
					t.Fatalf("at %v: two answers share memory", a)
				}
			}
			ledger.Right(l)
			ledger.Total(l)
			ledger.Same(l, room)
			if !slices.Equal(room, want) {
				t.Fatalf("at %v: what was handed in was written into", a)
			}
		}
	}
}

// R4

func TestAnswersHangOnArgumentsAlone(t *testing.T) {
	l := lines(bottom, top)
	for range 2 {
		m, e := ledger.Charge([]api.Line{{Label: top, Used: 1}, {Label: bottom, Used: 1}}, 10, bottom, 1)
		wantError(t, "Charge to no ledger", m, e, api.ErrLabel)
		m, e = ledger.Charge(l, 10, bottom, 2)
		wantLines(t, "Charge behind a wrong one", m, e, []api.Line{{Label: bottom, Used: 3}, l[1]})
		m, e = ledger.Refund(l, bottom, 2)
		wantError(t, "Refund of more than there is", m, e, api.ErrQuota)
		m, e = ledger.Refund(l, top, 8)
		wantLines(t, "Refund behind a wrong one", m, e, l[:1])
	}
}
