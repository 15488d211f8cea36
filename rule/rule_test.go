package rule_test

import (
	"fmt"
	"math"
	"regexp"
	"slices"
	"strconv"
	"strings"
	"sync"
	"testing"

	"plimsoll/api"
	"plimsoll/rule"
)

const full = math.MaxUint64

var (
	none   = api.Rule{}
	bottom = api.Label{Integ: 7}
	top    = api.Label{Level: 15, Cats: full}
)

// one is the chapter's example, and another its line.
var one = api.Rule{Id: 7, From: api.Label{Level: 2, Cats: 2, Integ: 7}, To: bottom, Budget: 50, What: api.Filter{Kind: api.WhatLen, Max: 20}}

const oneLine = "rule 7 L2{1}I7 L0I7 50 len 20\n"

// with is the example, but for what is changed in it.
func with(change func(r *api.Rule)) api.Rule {
	r := one
	change(&r)
	return r
}

func numbered(id int) api.Rule {
	return with(func(r *api.Rule) { r.Id = id })
}

// of is rules of these Ids, right or not.
func of(ids ...int) []api.Rule {
	var l []api.Rule
	for _, id := range ids {
		l = append(l, numbered(id))
	}
	return l
}

// wrong are no rules: each differs from one by little, or is one modulo 16, 256 or 2^32.
func wrong() []api.Rule {
	l := []api.Rule{none, {Id: 7}, {Id: 7, From: top}, {Id: 7, From: top, What: one.What, To: top}}
	for _, id := range []int{0, -1, -7, 100, 101, 107, 256 + 7, 1 << 32, 1<<32 + 7, -1<<32 + 7, math.MinInt, math.MinInt + 7, math.MaxInt} {
		l = append(l, numbered(id))
	}
	for _, a := range []api.Label{
		{Level: -1}, {Level: 16}, {Integ: -1}, {Integ: 8}, {Level: 17, Cats: 2, Integ: 7}, {Level: 2, Cats: 2, Integ: -7},
		{Level: 256}, {Integ: 256}, {Level: 1 << 32}, {Integ: 1 << 32}, {Level: -1 << 32}, {Level: math.MinInt}, {Level: math.MaxInt}, {Integ: math.MinInt}, {Integ: math.MaxInt},
	} {
		l = append(l, with(func(r *api.Rule) { r.From = a }), with(func(r *api.Rule) { r.To = a }), with(func(r *api.Rule) { r.From, r.To = a, a }))
	}
	for _, a := range []api.Label{bottom, top, {}, one.From, {Level: 9, Cats: 1 << 63, Integ: 3}} {
		l = append(l, with(func(r *api.Rule) { r.From, r.To = a, a }))
	}
	for _, budget := range []int{-1, -50, 1001, 1050, 1 << 32, 1<<32 + 50, -1 << 32, math.MinInt, math.MaxInt} {
		l = append(l, with(func(r *api.Rule) { r.Budget = budget }))
	}
	for _, f := range []api.Filter{
		{}, {Kind: 0, Max: 20}, {Kind: 4, Max: 20}, {Kind: -1, Max: 20}, {Kind: 1<<32 + 1, Max: 20}, {Kind: 1, Max: -1}, {Kind: 1, Max: 201}, {Kind: 1, Max: 5, Form: "x"},
		{Kind: 2, Max: 5}, {Kind: 2, Max: 5, Form: "za"}, {Kind: 2, Max: 5, Form: "aza"}, {Kind: 2, Max: 5, Form: "a\n"}, {Kind: 2, Max: 5, Form: strings.Repeat("az", 21)},
		{Kind: 3, Max: 5}, {Kind: 3, Max: 5, Form: "d"}, {Kind: 3, Max: 5, Form: "d0"}, {Kind: 3, Max: 5, Form: "az"}, {Kind: 3, Max: 201, Form: "d1"}, {Kind: 3, Max: math.MinInt, Form: "d1"},
	} {
		l = append(l, with(func(r *api.Rule) { r.What = f }))
	}
	return l
}

// The model: what is right is told by numbers and patterns, a text is made by formats, and read by patterns that are held against the text made again.

var (
	pairs   = regexp.MustCompile(`^([!-~][!-~]){1,20}$`)
	signs   = regexp.MustCompile(`^([da][1-9]|[-:/])+$`)
	lines   = regexp.MustCompile(`^rule ([0-9]{1,2}) (L[0-9{},]+I[0-9]) (L[0-9{},]+I[0-9]) ([0-9]{1,4}) (len|class|form) ([0-9]{1,3})(?: ([!-~]+))?\n$`)
	inLabel = regexp.MustCompile(`^L([0-9]{1,2})(?:\{([0-9]{1,2}(?:,[0-9]{1,2})*)\})?I([0-9])$`)
)

var kinds = []string{"", "len", "class", "form"}

func rightLabel(a api.Label) bool {
	return slices.Contains([]int{0, 1, 2, 3, 4, 5, 6, 7, 8, 9, 10, 11, 12, 13, 14, 15}, a.Level) && slices.Contains([]int{0, 1, 2, 3, 4, 5, 6, 7}, a.Integ)
}

func rightFilter(f api.Filter) bool {
	if f.Max < 0 || f.Max > 200 || len(f.Form) > 40 {
		return false
	}
	switch f.Kind {
	case 1:
		return f.Form == ""
	case 2:
		return pairs.MatchString(f.Form) && !slices.ContainsFunc(slices.Collect(slices.Chunk([]byte(f.Form), 2)), func(p []byte) bool { return p[0] > p[1] })
	case 3:
		return signs.MatchString(f.Form)
	}
	return false
}

func rightRule(r api.Rule) bool {
	same := r.From.Level == r.To.Level && r.From.Cats == r.To.Cats && r.From.Integ == r.To.Integ
	return r.Id >= 1 && r.Id <= 99 && rightLabel(r.From) && rightLabel(r.To) && !same && r.Budget >= 0 && r.Budget <= 1000 && rightFilter(r.What)
}

// rightAhead is how many are rules ahead of the first that is wrong where it is.
func rightAhead(l []api.Rule) int {
	var ids []int
	for i, r := range l {
		ids = append(ids, r.Id)
		if i == 8 || !rightRule(r) || !slices.IsSorted(ids) || len(slices.Compact(slices.Clone(ids))) != len(ids) {
			return i
		}
	}
	return len(l)
}

func labelText(a api.Label) string {
	var l []string
	for i := range 64 {
		if a.Cats>>i&1 == 1 {
			l = append(l, fmt.Sprint(i))
		}
	}
	if l == nil {
		return fmt.Sprintf("L%dI%d", a.Level, a.Integ)
	}
	return fmt.Sprintf("L%d{%s}I%d", a.Level, strings.Join(l, ","), a.Integ)
}

func lineOf(r api.Rule) string {
	s := fmt.Sprintf("rule %d %s %s %d %s %d", r.Id, labelText(r.From), labelText(r.To), r.Budget, kinds[r.What.Kind], r.What.Max)
	if r.What.Kind > 1 {
		s += " " + r.What.Form
	}
	return s + "\n"
}

func textOf(l []api.Rule) string {
	s := ""
	for _, r := range l {
		s += lineOf(r)
	}
	return s
}

func number(s string) int {
	n, _ := strconv.Atoi(s)
	return n
}

func labelIn(s string) api.Label {
	m := inLabel.FindStringSubmatch(s)
	if m == nil {
		return api.Label{Level: -1}
	}
	a := api.Label{Level: number(m[1]), Integ: number(m[3])}
	for _, i := range strings.Split(m[2], ",") {
		if i != "" && number(i) < 64 {
			a.Cats |= 1 << number(i)
		}
	}
	return a
}

func ruleIn(s string) (api.Rule, bool) {
	m := lines.FindStringSubmatch(s)
	if m == nil {
		return none, false
	}
	what := api.Filter{Kind: slices.Index(kinds, m[5]), Max: number(m[6]), Form: m[7]}
	r := api.Rule{Id: number(m[1]), From: labelIn(m[2]), To: labelIn(m[3]), Budget: number(m[4]), What: what}
	return r, rightRule(r) && lineOf(r) == s
}

func parse(s string) ([]api.Rule, int, api.Errno) {
	var l []api.Rule
	for _, s := range strings.SplitAfter(s, "\n") {
		if s == "" {
			break
		}
		r, ok := ruleIn(s)
		if !ok || rightAhead(append(l, r)) != len(l)+1 {
			return nil, len(l), api.ErrRule
		}
		l = append(l, r)
	}
	return l, 0, api.OK
}

// isRight asks of Right and of Print.
func isRight(t *testing.T, l []api.Rule, want bool) {
	t.Helper()
	if got := rule.Right(l); got != want {
		t.Fatalf("Right(%.200v): %t", l, got)
	}
	wantS, wantE := "", api.ErrRule
	if want {
		wantS, wantE = textOf(l), api.OK
	}
	if s, e := rule.Print(l); s != wantS || e != wantE {
		t.Fatalf("Print(%.200v): %q, %d; want %q, %d", l, s, e, wantS, wantE)
	}
}

func isParse(t *testing.T, s string, want []api.Rule, wantN int, wantE api.Errno) {
	t.Helper()
	if l, n, e := rule.Parse(s); !slices.Equal(l, want) || n != wantN || e != wantE {
		t.Fatalf("Parse(%.300q): %v, %d, %d; want %v, %d, %d", s, l, n, e, want, wantN, wantE)
	}
}

// isNoText asks for how many lines are right.
func isNoText(t *testing.T, s string, want int) {
	t.Helper()
	isParse(t, s, nil, want, api.ErrRule)
}

func isFind(t *testing.T, l []api.Rule, id int, want api.Rule, wantOk bool) {
	t.Helper()
	if r, ok := rule.Find(l, id); r != want || ok != wantOk {
		t.Fatalf("Find(%.200v, %d): %v, %t; want %v, %t", l, id, r, ok, want, wantOk)
	}
}

func isFrom(t *testing.T, l []api.Rule, a api.Label, want ...api.Rule) {
	t.Helper()
	if got := rule.From(l, a); !slices.Equal(got, want) {
		t.Fatalf("From(%.200v, %v): %v; want %v", l, a, got, want)
	}
}

// draw yields numbers that look unruly, and are the same each time.
type draw uint64

func (d *draw) of(n int) int {
	*d = *d*6364136223846793005 + 1442695040888963407
	return int(uint64(*d) >> 33 % uint64(n))
}

// label has few Levels, categories and Integs, so that some are the same.
func (d *draw) label() api.Label {
	if d.of(3) == 0 {
		return api.Label{Level: d.of(16), Cats: uint64(d.of(1<<30))<<34 ^ uint64(d.of(1<<30))<<d.of(20), Integ: d.of(8)}
	}
	return api.Label{Level: d.of(2), Cats: uint64(d.of(3)), Integ: d.of(2)}
}

func (d *draw) filter() api.Filter {
	most := []int{0, 9, 10, 200, d.of(201)}[d.of(5)]
	switch d.of(3) {
	case 0:
		return api.Filter{Kind: 1, Max: most}
	case 1:
		return api.Filter{Kind: 2, Max: most, Form: []string{"az", "!~", "azAF09", "--", "1d", "elnn"}[d.of(6)]}
	default:
		return api.Filter{Kind: 3, Max: most, Form: []string{"d4-d2", "-", "a9", "d1a1:/", strings.Repeat("d9", 20)}[d.of(5)]}
	}
}

func (d *draw) rule(id int) api.Rule {
	r := api.Rule{Id: id, From: d.label(), To: d.label(), Budget: []int{0, 1, 9, 10, 99, 100, 999, 1000, d.of(1001)}[d.of(9)], What: d.filter()}
	for r.To == r.From {
		r.To = d.label()
	}
	return r
}

// rules are up to n, their Ids rising.
func (d *draw) rules(n int) []api.Rule {
	var l []api.Rule
	id := 0
	for range d.of(n + 1) {
		id += 1 + d.of(11)
		l = append(l, d.rule(id))
	}
	return l
}

// bent is a text with a byte changed, put in or left out; with two lines in the other order; or with its end cut off.
func (d *draw) bent(s string) string {
	at := d.of(len(s) + 1)
	c := []string{string([]byte{byte(d.of(256))}), string("0123456789 LI{},\nrulenclasform-~"[d.of(32)])}[d.of(2)]
	switch d.of(6) {
	case 0:
		return s[:at] + c + s[at:]
	case 1, 2:
		return s[:at] + c + s[min(at+1, len(s)):]
	case 3:
		return s[:at] + s[min(at+1, len(s)):]
	case 4:
		ahead, behind, _ := strings.Cut(s, "\n")
		return behind + ahead + "\n"
	default:
		return s[:at]
	}
}

// P14.1

func TestTheChaptersExample(t *testing.T) {
	isRight(t, []api.Rule{one}, true)
	if s, _ := rule.Print([]api.Rule{one}); s != oneLine {
		t.Errorf("%q", s)
	}
	isParse(t, oneLine, []api.Rule{one}, 0, api.OK)
}

func TestRight(t *testing.T) {
	for _, l := range [][]api.Rule{
		nil, {}, of(1), of(99), of(10), of(1, 99), of(98, 99), of(1, 2), of(1, 2, 3, 4, 5, 6, 7, 8), of(92, 93, 94, 95, 96, 97, 98, 99), of(1, 10, 20, 30, 40, 50, 60, 99),
		{with(func(r *api.Rule) { r.Budget = 0 })},
		{with(func(r *api.Rule) { r.Budget = 1000 })},
		{with(func(r *api.Rule) { r.From, r.To = r.To, r.From })},
		{with(func(r *api.Rule) { r.From, r.To = top, bottom })},
		{with(func(r *api.Rule) { r.From, r.To = bottom, top })},
		{with(func(r *api.Rule) { r.From, r.To = bottom, api.Label{Integ: 6} })},
		{with(func(r *api.Rule) { r.From, r.To = bottom, api.Label{Level: 1, Integ: 7} })},
		{with(func(r *api.Rule) { r.From, r.To = bottom, api.Label{Cats: 1 << 63, Integ: 7} })},
		{with(func(r *api.Rule) { r.From, r.To = api.Label{}, bottom })},
		{with(func(r *api.Rule) { r.From, r.To = api.Label{Level: 1, Cats: 1}, api.Label{Level: 2, Cats: 2} })},
		{with(func(r *api.Rule) { r.What = api.Filter{Kind: 1} })},
		{with(func(r *api.Rule) { r.What = api.Filter{Kind: 1, Max: 200} })},
		{with(func(r *api.Rule) { r.What = api.Filter{Kind: 2, Max: 5, Form: "azAF"} })},
		{with(func(r *api.Rule) { r.What = api.Filter{Kind: 3, Max: 9, Form: "d4-d2"} })},
	} {
		isRight(t, l, true)
	}
	for id := -300; id < 600; id++ {
		isRight(t, of(id), id >= 1 && id <= 99)
	}
	for budget := -50; budget < 2100; budget++ {
		isRight(t, []api.Rule{with(func(r *api.Rule) { r.Budget = budget })}, budget >= 0 && budget <= 1000)
	}
	for level := -2; level < 34; level++ {
		for integ := -2; integ < 18; integ++ {
			a := api.Label{Level: level, Cats: 5, Integ: integ}
			isRight(t, []api.Rule{with(func(r *api.Rule) { r.From = a })}, rightLabel(a))
			isRight(t, []api.Rule{with(func(r *api.Rule) { r.To = a })}, rightLabel(a))
			isRight(t, []api.Rule{with(func(r *api.Rule) { r.From, r.To = a, a })}, false)
		}
	}
}

// One that is none is wrong wherever it stands.
func TestWhatIsNoRule(t *testing.T) {
	for _, r := range wrong() {
		isRight(t, []api.Rule{r}, false)
		for n := range 8 {
			for at := range n + 1 {
				l := of(10, 20, 30, 40, 50, 60, 70, 80)[:n]
				middle := r
				if r.Id == one.Id {
					middle.Id = 10*at + 5
				}
				isRight(t, slices.Insert(l, at, middle), false)
			}
		}
	}
}

func TestIdsRise(t *testing.T) {
	for _, ids := range [][]int{
		{1, 1}, {2, 1}, {99, 1}, {99, 99}, {1, 2, 2}, {1, 2, 1}, {2, 1, 3}, {1, 3, 2}, {1, 3, 2, 4}, {5, 6, 7, 8, 1, 2, 3, 4}, {1, 2, 3, 4, 5, 6, 7, 7}, {1, 2, 3, 4, 5, 6, 7, 6}, {1, 2, 3, 4, 5, 6, 7, 1}, {8, 7, 6, 5, 4, 3, 2, 1},
		{0, 1}, {-1, 1}, {-2, -1}, {1, 100}, {99, 100}, {1, 0}, {1, -1}, {math.MinInt, 1}, {1, math.MaxInt},
	} {
		isRight(t, of(ids...), false)
	}
	// Rules that differ in all else.
	other := api.Rule{Id: 7, From: top, To: one.From, Budget: 9, What: api.Filter{Kind: 3, Max: 9, Form: "d1"}}
	isRight(t, []api.Rule{one, other}, false)
	other.Id = 8
	isRight(t, []api.Rule{one, other}, true)
	isRight(t, []api.Rule{other, one}, false)
	for a := range 102 {
		for b := range 102 {
			isRight(t, of(a, b), 1 <= a && a < b && b <= 99)
		}
	}
}

func TestRulesAreAtMostEight(t *testing.T) {
	var l []api.Rule
	for i := range 99 {
		l = append(l, numbered(i+1))
	}
	for n := range 100 {
		isRight(t, l[:n], n <= 8)
		isRight(t, l[99-n:], n <= 8)
	}
	isRight(t, slices.Repeat(l, 1000), false)
	isRight(t, slices.Repeat([]api.Rule{one}, 256), false)
}

func TestRightIsTheModels(t *testing.T) {
	d := draw(1)
	ends := map[bool]int{}
	bad := wrong()
	for range 20000 {
		l := d.rules(9)
		switch at := d.of(len(l) + 1); d.of(5) {
		case 0:
			l = slices.Insert(l, at, bad[d.of(len(bad))])
		case 1:
			l = slices.Insert(l, at, d.rule(1+d.of(99)))
		case 2:
			slices.Reverse(l[:at])
		}
		want := rightAhead(l) == len(l)
		ends[want]++
		isRight(t, l, want)
	}
	if ends[true] < 5000 || ends[false] < 5000 {
		t.Errorf("of the lists %v are rules, or not", ends)
	}
}

func TestFind(t *testing.T) {
	l := of(1, 7, 99)
	l[0].Budget, l[2].Budget = 1, 99
	for i, id := range []int{1, 7, 99} {
		isFind(t, l, id, l[i], true)
	}
	for _, id := range []int{0, -1, -7, 2, 6, 8, 98, 100, 256 + 7, 1<<32 + 7, math.MinInt, math.MaxInt} {
		isFind(t, l, id, none, false)
	}
	for _, id := range []int{0, 1, 7, -1} {
		isFind(t, nil, id, none, false)
		isFind(t, []api.Rule{}, id, none, false)
	}
}

// It asks for no rules: it tells the first one of many, and one of an Id that is none.
func TestFindInWhatAreNoRules(t *testing.T) {
	l := of(7, 7, 3, 7, 3)
	for i := range l {
		l[i].Budget = i
	}
	isFind(t, l, 7, l[0], true)
	isFind(t, l, 3, l[2], true)
	isFind(t, l[1:], 7, l[1], true)
	for _, id := range []int{0, -1, 100, math.MinInt, math.MaxInt} {
		isFind(t, of(1, id, 2), id, numbered(id), true)
	}
	isFind(t, []api.Rule{{}}, 0, none, true)
	isFind(t, []api.Rule{one, {}}, 0, none, true)
	for _, r := range wrong() {
		isFind(t, append(of(50, 51), r), r.Id, r, true)
	}
	var many []api.Rule
	for i := range 1000 {
		many = append(many, numbered(i))
	}
	isFind(t, many, 999, many[999], true)
	isFind(t, many, 1000, none, false)
}

func TestFrom(t *testing.T) {
	l := of(1, 2, 3, 4, 5)
	l[1].From, l[3].From = top, top
	l[4].From = api.Label{Level: 2, Cats: 2, Integ: 6}
	isFrom(t, l, one.From, l[0], l[2])
	isFrom(t, l, top, l[1], l[3])
	isFrom(t, l, l[4].From, l[4])
	for _, a := range []api.Label{{}, bottom, {Level: 3, Cats: 2, Integ: 7}, {Level: 2, Cats: 3, Integ: 7}, {Level: 2, Cats: 2, Integ: 5}, {Level: 2, Integ: 7}, {Level: -1}, {Level: 2, Cats: 2, Integ: 256 + 7}, {Level: 1<<32 + 2, Cats: 2, Integ: 7}} {
		isFrom(t, l, a)
		isFrom(t, nil, a)
		isFrom(t, []api.Rule{}, a)
	}
	eight := of(1, 2, 3, 4, 5, 6, 7, 8)
	isFrom(t, eight, one.From, eight...)
}

// It asks for no rules, and no label: those are told that have it.
func TestFromWhatAreNoRules(t *testing.T) {
	l := of(7, 7, 3, 0, -1)
	isFrom(t, l, one.From, l...)
	isFrom(t, []api.Rule{{}, one, {}}, api.Label{}, none, none)
	for _, r := range wrong() {
		isFrom(t, []api.Rule{r}, r.From, r)
		if r.From != top {
			isFrom(t, []api.Rule{{From: top}, r, {From: top}, r}, r.From, r, r)
		}
	}
	many := slices.Repeat(of(1, 2, 3), 1000)
	isFrom(t, many, one.From, many...)
}

func TestFindAndFromAreTheModels(t *testing.T) {
	d := draw(3)
	found := 0
	for range 10000 {
		l := append(d.rules(9), d.rules(4)...)
		id, a := d.of(60), d.label()
		var first []api.Rule
		var from []api.Rule
		for i := len(l) - 1; i >= 0; i-- {
			if l[i].Id == id {
				first = []api.Rule{l[i]}
			}
			if l[i].From.Level == a.Level && l[i].From.Cats == a.Cats && l[i].From.Integ == a.Integ {
				from = slices.Insert(from, 0, l[i])
			}
		}
		if first == nil {
			isFind(t, l, id, none, false)
		} else {
			found++
			isFind(t, l, id, first[0], true)
		}
		isFrom(t, l, a, from...)
	}
	if found < 500 || found > 9500 {
		t.Errorf("%d of 10000 are found", found)
	}
}

func TestCats(t *testing.T) {
	sets := []uint64{0, 1, 2, 3, 5, 6, 1 << 31, 1 << 32, 1 << 63, 1<<63 | 1, full >> 1, full - 1, full, 0x5555555555555555, 0xaaaaaaaaaaaaaaaa}
	for _, from := range sets {
		for _, to := range sets {
			want := uint64(0)
			for i := range 64 {
				if from>>i%2 == 1 && to>>i%2 == 0 {
					want += 1 << i
				}
			}
			// What else it has, right or not, is of no account.
			for _, r := range []api.Rule{one, none, {Id: -1, Budget: -1}, {Id: 1 << 40, Budget: 5000, What: api.Filter{Kind: 9}}} {
				r.From.Cats, r.To.Cats = from, to
				if got := rule.Cats(r); got != want {
					t.Errorf("Cats(%v): %x; want %x", r, got, want)
				}
			}
			if got := rule.Cats(api.Rule{From: api.Label{Level: -1, Cats: from, Integ: 99}, To: api.Label{Level: 99, Cats: to, Integ: -1}}); got != want {
				t.Errorf("Cats from %x to %x: %x; want %x", from, to, got, want)
			}
		}
	}
}

// P14.2

func TestPrint(t *testing.T) {
	for _, x := range []struct {
		l    []api.Rule
		want string
	}{
		{nil, ""},
		{[]api.Rule{}, ""},
		{of(1), "rule 1 L2{1}I7 L0I7 50 len 20\n"},
		{of(99), "rule 99 L2{1}I7 L0I7 50 len 20\n"},
		{of(10, 20), "rule 10 L2{1}I7 L0I7 50 len 20\nrule 20 L2{1}I7 L0I7 50 len 20\n"},
		{[]api.Rule{{Id: 1, From: bottom, To: api.Label{Level: 15, Cats: 1<<63 | 1, Integ: 0}, Budget: 0, What: api.Filter{Kind: 2, Max: 0, Form: "!~"}}}, "rule 1 L0I7 L15{0,63}I0 0 class 0 !~\n"},
		{[]api.Rule{{Id: 2, From: api.Label{Level: 10, Cats: 1<<12 | 1, Integ: 5}, Budget: 1000, What: api.Filter{Kind: 3, Max: 200, Form: "d4-d2"}}}, "rule 2 L10{0,12}I5 L0I0 1000 form 200 d4-d2\n"},
		{[]api.Rule{one, {Id: 8, From: one.To, To: one.From, Budget: 7, What: api.Filter{Kind: 2, Max: 5, Form: "azAF"}}}, oneLine + "rule 8 L0I7 L2{1}I7 7 class 5 azAF\n"},
	} {
		if s, e := rule.Print(x.l); s != x.want || e != api.OK {
			t.Errorf("Print(%v): %q, %d; want %q", x.l, s, e, x.want)
		}
		isParse(t, x.want, x.l, 0, api.OK)
	}
}

// words is a line in which one word, by its place, is another one.
func words(at int, word string) string {
	l := strings.Split(strings.TrimSuffix(oneLine, "\n"), " ")
	l[at] = word
	return strings.Join(l, " ") + "\n"
}

func TestParseRefusesWords(t *testing.T) {
	for at, l := range [][]string{
		{"", "rul", "rules", "Rule", "RULE", "rule\t", "\xffrule", "7", "len"},
		{"", "0", "00", "07", "007", "+7", "-7", "7.0", "0x7", "7_", "1e1", "seven", "٧", "100", "101", "107", "256", "263", "1000", "4294967303", "9223372036854775807", "9223372036854775808", "18446744073709551623", "-9223372036854775808", strings.Repeat("9", 1000), strings.Repeat("0", 1000) + "7", "7,", "L2", "\n"},
		{"", "L", "L2", "I7", "2{1}I7", "L2{1}", "L2{}I7", "L2{1,}I7", "L2{,1}I7", "L2{1,1}I7", "L2{2,1}I7", "L2{01}I7", "L2{64}I7", "L2{-1}I7", "L16{1}I7", "L02{1}I7", "L-2{1}I7", "L2{1}I8", "L2{1}I07", "L2{1}I", "L2{1}I77", "l2{1}i7", "L2{1}I7x", "L0I7", "L2(1)I7", "L2{" + strings.Repeat("1,", 1000) + "1}I7"},
		{"", "L", "L0", "I7", "0I7", "L0{}I7", "L16I7", "L00I7", "L0I8", "L0I07", "L0I", "l0i7", "L0I7.", "L2{1}I7", "\n"},
		{"", "-1", "-50", "+50", "050", "1001", "1050", "1256", "10000", "50.0", "0x5", "5e1", "5_0", "4294967346", "9223372036854775807", "9223372036854775808", "18446744073709551666", "fifty", "len", "\x00", strings.Repeat("0", 1000)},
		{"", "Len", "lens", "le", "class", "form", "5", "size", "rule", "\n"},
		{"", "-1", "+20", "020", "201", "256", "1000", "4294967316", "18446744073709551636", "20 x", "20 az", "20 d1", "20\t", "twenty"},
	} {
		for _, word := range l {
			s := words(at, word)
			isNoText(t, s, 0)
			isNoText(t, lineOf(numbered(1))+s, 1)
			isNoText(t, lineOf(numbered(1))+s+lineOf(numbered(99)), 1)
			isNoText(t, s+lineOf(numbered(99)), 0)
		}
	}
	for _, what := range []string{"class 5", "class 5 ", "class 5 za", "class 5 azA", "class 5 a ", "class 5 az AF", "class 5  az", "class 5 a\x7f", "class 05 az", "class 201 az", "class 5 " + strings.Repeat("az", 21), "form 5", "form 5 ", "form 5 d", "form 5 d0", "form 5 az", "form 5 d1 d1", "form 5  d1", "form 05 d1", "form 201 d1", "form 5 " + strings.Repeat("-", 41), "form -1 d1"} {
		isNoText(t, "rule 7 L2{1}I7 L0I7 50 "+what+"\n", 0)
	}
}

func TestParseRefusesLines(t *testing.T) {
	bare := strings.TrimSuffix(oneLine, "\n")
	for _, s := range []string{
		"x", "\n", " ", "\n\n", "\x00", "r", "rule", "rule ", "rule\n", "rule \n", "rule 7", "rule 7\n", "rule 7 \n", "rule 7 L2{1}I7\n", "rule 7 L2{1}I7 L0I7\n", "rule 7 L2{1}I7 L0I7 50\n", "rule 7 L2{1}I7 L0I7 50 \n", "rule 7 L2{1}I7 L0I7 50 len\n", "rule 7 L2{1}I7 L0I7 50 len \n",
		bare, bare + " ", bare + "\r\n", bare + " \n", bare + "\x00\n", " " + oneLine, "\n" + oneLine, "\t" + oneLine, bare + " x\n", bare + bare + "\n", bare + " " + oneLine, "\xef\xbb\xbf" + oneLine,
		strings.ReplaceAll(oneLine, " ", "  "), strings.ReplaceAll(oneLine, " ", "\t"), strings.ReplaceAll(oneLine, " ", ""), strings.ToUpper(oneLine), strings.ReplaceAll(oneLine, " ", "\n"),
		"rule L2{1}I7 L0I7 50 len 20\n", "7 L2{1}I7 L0I7 50 len 20\n", "rule 7 L2{1}I7 50 len 20\n", "rule 7 L2{1}I7 L0I7 len 20\n", "rule 7 L2{1}I7 L0I7 50 20\n", "rule 7 50 L2{1}I7 L0I7 len 20\n", "rule 7 L2{1}I7 L0I7 50 50 len 20\n", "rule 7 L2{1}I7 L0I7 L0I7 50 len 20\n", "rule 7 7 L2{1}I7 L0I7 50 len 20\n", "rule rule 7 L2{1}I7 L0I7 50 len 20\n",
		"rule 7 L0I7 L0I7 50 len 20\n", "rule 7 L2{1}I7 L2{1}I7 50 len 20\n",
	} {
		isNoText(t, s, 0)
		isNoText(t, lineOf(numbered(3))+s, 1)
		isNoText(t, lineOf(numbered(3))+lineOf(numbered(5))+s, 2)
	}
}

// A blank, or a byte, too many or too few at each place is refused, but where it makes another rule's line.
func TestParseOfAllThatIsNear(t *testing.T) {
	for _, s := range []string{oneLine, lineOf(numbered(6)) + oneLine, oneLine + "rule 10 L10{1,12}I5 L0I0 100 form 10 d4-d2\n"} {
		for at := range len(s) + 1 {
			isNear(t, s[:at])
			isNear(t, s[at:])
			for i := range 256 {
				isNear(t, s[:at]+string([]byte{byte(i)})+s[at:])
				if at < len(s) {
					isNear(t, s[:at]+string([]byte{byte(i)})+s[at+1:])
				}
			}
			if at < len(s) {
				isNear(t, s[:at]+s[at+1:])
			}
		}
	}
}

func isNear(t *testing.T, s string) {
	t.Helper()
	l, n, e := parse(s)
	isParse(t, s, l, n, e)
}

func TestParseTellsHowManyLinesAreRight(t *testing.T) {
	var l []api.Rule
	for i := range 12 {
		l = append(l, numbered(i+1))
	}
	for n := range 13 {
		s := textOf(l[:n])
		if n <= 8 {
			isParse(t, s, l[:n], 0, api.OK)
		} else {
			isNoText(t, s, 8)
		}
		most := min(n, 8)
		for _, more := range []string{"x", "x\n", "\n", "rule", oneLine[:len(oneLine)-1], lineOf(numbered(n)), lineOf(numbered(0)), lineOf(numbered(100)), words(4, "1001"), " " + lineOf(numbered(99))} {
			isNoText(t, s+more, most)
			isNoText(t, s+more+lineOf(numbered(50)), most)
			isNoText(t, "x"+more+"\n"+s, 0)
		}
		for at := range n {
			isNoText(t, textOf(l[:at])+"\n"+textOf(l[at:n]), min(at, 8))
		}
	}
	// Ids that don't rise: what is behind counts no more, even if it rises.
	for _, x := range []struct {
		ids  []int
		want int
	}{
		{[]int{1, 1}, 1}, {[]int{2, 1}, 1}, {[]int{99, 1}, 1}, {[]int{1, 2, 2}, 2}, {[]int{1, 2, 2, 3}, 2}, {[]int{1, 3, 2, 4}, 2}, {[]int{2, 1, 3, 4, 5}, 1}, {[]int{1, 2, 3, 1, 2, 3}, 3}, {[]int{1, 2, 3, 4, 5, 6, 7, 7}, 7}, {[]int{1, 2, 3, 4, 5, 6, 7, 8, 8}, 8}, {[]int{1, 2, 3, 4, 5, 6, 7, 8, 9, 10}, 8}, {[]int{0, 1}, 0}, {[]int{1, 0}, 1}, {[]int{1, 99, 100}, 2}, {[]int{100, 1}, 0},
	} {
		isNoText(t, textOf(of(x.ids...)), x.want)
	}
}

func TestParseIsTheModels(t *testing.T) {
	d := draw(17)
	ends := map[api.Errno]int{}
	counts := map[int]int{}
	for range 15000 {
		s := textOf(d.rules(9))
		for range 3 {
			l, n, e := parse(s)
			ends[e]++
			counts[n]++
			isParse(t, s, l, n, e)
			s = d.bent(s)
		}
	}
	if ends[api.OK] < 5000 || ends[api.ErrRule] < 5000 || len(counts) != 9 {
		t.Errorf("the texts end so: %v, %v", ends, counts)
	}
}

func TestParseOfLongTexts(t *testing.T) {
	const long = 1 << 22
	for _, s := range []string{
		strings.Repeat(" ", long), strings.Repeat("\n", long), strings.Repeat("x", long), strings.Repeat("rule ", long/5), "rule " + strings.Repeat("9", long), "rule " + strings.Repeat("9", long) + oneLine[6:],
		"rule 7 L" + strings.Repeat("2", long) + " L0I7 50 len 20\n", "rule 7 L2{1}I7 L0I7 50 len " + strings.Repeat("1", long) + "\n", "rule 7 L2{1}I7 L0I7 50 class 5 " + strings.Repeat("az", long/2) + "\n", "rule 7 L2{1}I7 L0I7 50 form 5 " + strings.Repeat("-", long) + "\n",
	} {
		isNoText(t, s, 0)
		isNoText(t, lineOf(numbered(1))+s, 1)
	}
	isNoText(t, strings.Repeat(oneLine, long/len(oneLine)), 1)
	isNoText(t, textOf(of(1, 2, 3, 4, 5, 6, 7, 8))+strings.Repeat("x", long), 8)
}

// P14.3

func TestRulesAndTheirTextsAreOneToOne(t *testing.T) {
	seen := map[string][]api.Rule{}
	d := draw(19)
	for i := range 12000 {
		l := d.rules(8)
		if i%3 == 0 && len(l) > 1 {
			l = l[:1]
		}
		s, e := rule.Print(l)
		if other, there := seen[s]; e != api.OK || there && !slices.Equal(other, l) {
			t.Fatalf("Print(%v): %q, %d, as of %v", l, s, e, other)
		}
		seen[s] = l
		isParse(t, s, l, 0, api.OK)
	}
	// What has rules is those rules' text, and no other ones'.
	for s := range seen {
		for range 3 {
			bent := d.bent(s)
			if l, _, e := rule.Parse(bent); e == api.OK {
				if again, f := rule.Print(l); again != bent || f != api.OK {
					t.Fatalf("Parse(%q): %v, whose text is %q, %d", bent, l, again, f)
				}
			}
		}
	}
}

// A text's lines ahead of what is wrong are rules' text, and they are as many as are told.
func TestWhatIsAheadIsRulesText(t *testing.T) {
	d := draw(23)
	for range 10000 {
		s := d.bent(d.bent(textOf(d.rules(9))))
		_, n, e := rule.Parse(s)
		if e == api.OK {
			continue
		}
		parts := strings.SplitAfter(s, "\n")
		ahead := strings.Join(parts[:n], "")
		if l, m, e := rule.Parse(ahead); len(l) != n || m != 0 || e != api.OK {
			t.Fatalf("Parse(%q): %v, %d, %d; of %q %d lines are right", ahead, l, m, e, s, n)
		}
		if n < len(parts) && parts[n] != "" {
			isNoText(t, ahead+parts[n], n)
		}
	}
}

// R3

func TestWhatIsHandedInIsNotTouched(t *testing.T) {
	d := draw(29)
	for range 500 {
		room := append(d.rules(9), d.rules(9)...)
		was := slices.Clone(room)
		n := d.of(len(room) + 1)
		l := room[:n]
		rule.Right(l)
		rule.Print(l)
		rule.Find(l, d.of(40))
		a := d.label()
		if n > 0 {
			a = l[d.of(n)].From
		}
		for _, r := range rule.From(l, a) {
			r.Id = 0
		}
		got := rule.From(l, a)
		got = got[:cap(got)]
		for i := range got {
			got[i] = numbered(-1)
		}
		if !slices.Equal(room, was) {
			t.Fatalf("%v has become %v", was, room)
		}
	}
}

func TestAnswersShareNoMemory(t *testing.T) {
	l := of(1, 2, 3)
	a, b := rule.From(l, one.From), rule.From(l, one.From)
	p, _, _ := rule.Parse(textOf(l))
	q, _, _ := rule.Parse(textOf(l))
	for _, x := range [][]api.Rule{a, p} {
		x = x[:cap(x)]
		for i := range x {
			x[i] = none
		}
	}
	if !slices.Equal(b, l) || !slices.Equal(q, l) || !slices.Equal(l, of(1, 2, 3)) {
		t.Error(l, b, q)
	}
}

func TestNilAndEmptyAreOne(t *testing.T) {
	for _, l := range [][]api.Rule{nil, {}, make([]api.Rule, 0, 9)} {
		isRight(t, l, true)
		isFind(t, l, 0, none, false)
		isFrom(t, l, api.Label{})
	}
	isParse(t, "", nil, 0, api.OK)
}

// R4

func TestAnswersHangOnArgumentsAlone(t *testing.T) {
	for range 2 {
		isRight(t, of(2, 1), false)
		isNoText(t, oneLine+oneLine, 1)
		isRight(t, of(1, 2), true)
		isParse(t, oneLine, []api.Rule{one}, 0, api.OK)
		isFind(t, of(1, 2), 2, numbered(2), true)
		isFind(t, of(1, 3), 2, none, false)
		isFrom(t, of(1, 3), one.From, of(1, 3)...)
	}
}

func TestManyMayAskAtOnce(t *testing.T) {
	l := of(1, 2, 3, 4, 5, 6, 7, 8)
	text := textOf(l)
	var all sync.WaitGroup
	for range 16 {
		all.Go(func() {
			for range 50 {
				s, e := rule.Print(l)
				m, n, f := rule.Parse(text)
				r, ok := rule.Find(l, 5)
				if s != text || e != api.OK || !slices.Equal(m, l) || n != 0 || f != api.OK || r != l[4] || !ok || len(rule.From(l, one.From)) != 8 || !rule.Right(l) {
					t.Error(s, e, m, n, f, r, ok)
				}
			}
		})
	}
	all.Wait()
}
