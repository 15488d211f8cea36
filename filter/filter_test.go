package filter_test

import (
	"math"
	"regexp"
	"slices"
	"strconv"
	"strings"
	"sync"
	"testing"

	"plimsoll/api"
	"plimsoll/filter"
)

var none = api.Filter{}

// wrong are no filters: each differs from one by little, or is one modulo 256 or 2^32.
var wrong = []api.Filter{
	{},
	{Kind: -1, Max: 5}, {Kind: 0, Max: 5}, {Kind: 4, Max: 5}, {Kind: 257, Max: 5}, {Kind: 1<<32 + 1, Max: 5}, {Kind: math.MinInt + 1, Max: 5}, {Kind: math.MaxInt}, {Kind: math.MinInt},
	{Kind: 0, Max: 5, Form: "az"}, {Kind: 4, Max: 5, Form: "az"}, {Kind: 5, Max: 5, Form: "d1"}, {Kind: 258, Max: 5, Form: "az"}, {Kind: 1<<32 + 3, Max: 5, Form: "d1"}, {Kind: -2, Max: 5, Form: "az"}, {Kind: -3, Max: 5, Form: "d1"},
	{Kind: 1, Max: -1}, {Kind: 1, Max: 201}, {Kind: 1, Max: 256}, {Kind: 1, Max: -256}, {Kind: 1, Max: 1 << 32}, {Kind: 1, Max: math.MinInt}, {Kind: 1, Max: math.MaxInt},
	{Kind: 2, Max: -1, Form: "az"}, {Kind: 2, Max: 201, Form: "az"}, {Kind: 2, Max: 1 << 32, Form: "az"}, {Kind: 2, Max: math.MinInt, Form: "az"}, {Kind: 2, Max: math.MaxInt, Form: "az"},
	{Kind: 3, Max: -1, Form: "d1"}, {Kind: 3, Max: 201, Form: "d1"}, {Kind: 3, Max: 1 << 32, Form: "d1"}, {Kind: 3, Max: math.MinInt, Form: "d1"}, {Kind: 3, Max: math.MaxInt, Form: "d1"},
	{Kind: 1, Max: 5, Form: "x"}, {Kind: 1, Max: 5, Form: "az"}, {Kind: 1, Max: 5, Form: "d1"}, {Kind: 1, Max: 5, Form: " "}, {Kind: 1, Max: 5, Form: "\x00"},
	{Kind: 2, Max: 5}, {Kind: 2, Max: 5, Form: "a"}, {Kind: 2, Max: 5, Form: "azA"}, {Kind: 2, Max: 5, Form: "za"}, {Kind: 2, Max: 5, Form: "azZA"}, {Kind: 2, Max: 5, Form: "zaAZ"}, {Kind: 2, Max: 5, Form: " ~"}, {Kind: 2, Max: 5, Form: "!\x7f"}, {Kind: 2, Max: 5, Form: "az "}, {Kind: 2, Max: 5, Form: "az AZ"}, {Kind: 2, Max: 5, Form: "\xff\xff"}, {Kind: 2, Max: 5, Form: "aé"}, {Kind: 2, Max: 5, Form: strings.Repeat("az", 21)}, {Kind: 2, Max: 5, Form: strings.Repeat("a", 41)}, {Kind: 2, Max: 5, Form: strings.Repeat("az", 1<<20)},
	{Kind: 3, Max: 5}, {Kind: 3, Max: 5, Form: "d"}, {Kind: 3, Max: 5, Form: "d0"}, {Kind: 3, Max: 5, Form: "a"}, {Kind: 3, Max: 5, Form: "a0"}, {Kind: 3, Max: 5, Form: "d:"}, {Kind: 3, Max: 5, Form: "da"}, {Kind: 3, Max: 5, Form: "d1d"}, {Kind: 3, Max: 5, Form: "-a"}, {Kind: 3, Max: 5, Form: "1"}, {Kind: 3, Max: 5, Form: "d10"}, {Kind: 3, Max: 5, Form: "1d"}, {Kind: 3, Max: 5, Form: "A1"}, {Kind: 3, Max: 5, Form: "D1"}, {Kind: 3, Max: 5, Form: "x1"}, {Kind: 3, Max: 5, Form: "d1 d1"}, {Kind: 3, Max: 5, Form: " d1"}, {Kind: 3, Max: 5, Form: "d1."}, {Kind: 3, Max: 5, Form: "d1,d1"}, {Kind: 3, Max: 5, Form: "d\xb1"}, {Kind: 3, Max: 5, Form: strings.Repeat("-", 41)}, {Kind: 3, Max: 5, Form: strings.Repeat("d1", 21)}, {Kind: 3, Max: 5, Form: strings.Repeat("-", 1<<20)},
}

// The model: a filter is told by patterns, and what passes by the bytes that may stand at each place.

var (
	pairs  = regexp.MustCompile(`^([!-~][!-~])+$`)
	signs  = regexp.MustCompile(`^([da][1-9]|[-:/])+$`)
	many   = regexp.MustCompile(`[da][1-9]`)
	prints = regexp.MustCompile(`^(len|class|form) (0|[1-9][0-9]?[0-9]?)( [!-~]+)?$`)
)

func rising(form string) bool {
	for i := 0; i < len(form); i += 2 {
		if form[i] > form[i+1] {
			return false
		}
	}
	return true
}

func right(f api.Filter) bool {
	if f.Max < 0 || f.Max > 200 || len(f.Form) > 40 {
		return false
	}
	switch f.Kind {
	case 1:
		return f.Form == ""
	case 2:
		return pairs.MatchString(f.Form) && rising(f.Form)
	case 3:
		return signs.MatchString(f.Form)
	}
	return false
}

// laid is what signs say, each byte by one of its own: d4-d2 is dddd-dd.
func laid(form string) string {
	return many.ReplaceAllStringFunc(form, func(s string) string {
		return strings.Repeat(s[:1], int(s[1]-'0'))
	})
}

// lets tells of a filter whether it lets a byte stand at a place.
func lets(f api.Filter) func(at int, c byte) bool {
	record := laid(f.Form)
	return func(at int, c byte) bool {
		switch f.Kind {
		case 1:
			return true
		case 2:
			return member(f.Form, c)
		default:
			return at < len(record) && stands(record[at], c)
		}
	}
}

func member(form string, c byte) bool {
	for i := 0; i < len(form); i += 2 {
		for b := int(form[i]); b <= int(form[i+1]); b++ {
			if b == int(c) {
				return true
			}
		}
	}
	return false
}

func stands(of, c byte) bool {
	switch of {
	case 'd':
		return strings.IndexByte("0123456789", c) >= 0
	case 'a':
		return strings.IndexByte("abcdefghijklmnopqrstuvwxyz", c) >= 0
	}
	return c == of
}

func place(f api.Filter, s string) int {
	may := lets(f)
	for i := range len(s) {
		if i == f.Max || !may(i, s[i]) {
			return i
		}
	}
	if f.Kind == 3 && len(s) < len(laid(f.Form)) {
		return len(s)
	}
	return -1
}

func parse(s string) (api.Filter, bool) {
	m := prints.FindStringSubmatch(s)
	if m == nil {
		return none, false
	}
	most, _ := strconv.Atoi(m[2])
	f := api.Filter{Kind: slices.Index([]string{"", "len", "class", "form"}, m[1]), Max: most, Form: strings.TrimPrefix(m[3], " ")}
	if !right(f) {
		return none, false
	}
	return f, true
}

// isPlace asks for the place of what a filter does not let pass, and for whether it does.
func isPlace(t *testing.T, f api.Filter, s string, want int) {
	t.Helper()
	if at, e := filter.Place(f, s); at != want || e != api.OK {
		t.Fatalf("Place(%v, %.50q): %d, %d; want %d", f, s, at, e, want)
	}
	if ok, e := filter.Pass(f, s); ok != (want < 0) || e != api.OK {
		t.Fatalf("Pass(%v, %.50q): %t, %d; want the place %d", f, s, ok, e, want)
	}
}

func isRight(t *testing.T, f api.Filter, want bool) {
	t.Helper()
	if got := filter.Right(f); got != want {
		t.Fatalf("Right(%v): %t", f, got)
	}
	wantE := api.OK
	if !want {
		wantE = api.ErrFilter
	}
	if _, e := filter.Print(f); e != wantE {
		t.Fatalf("Print(%v): %d; want %d", f, e, wantE)
	}
}

func isPrint(t *testing.T, f api.Filter, want string, wantE api.Errno) {
	t.Helper()
	if got, e := filter.Print(f); got != want || e != wantE {
		t.Fatalf("Print(%v): %q, %d; want %q, %d", f, got, e, want, wantE)
	}
}

func isParse(t *testing.T, s string, want api.Filter, wantE api.Errno) {
	t.Helper()
	if got, e := filter.Parse(s); got != want || e != wantE {
		t.Fatalf("Parse(%.60q): %v, %d; want %v, %d", s, got, e, want, wantE)
	}
}

func isSize(t *testing.T, f api.Filter, want int, wantOk bool) {
	t.Helper()
	if got, ok := filter.Size(f); got != want || ok != wantOk {
		t.Fatalf("Size(%v): %d, %t; want %d, %t", f, got, ok, want, wantOk)
	}
}

// draw yields numbers that look unruly, and are the same each time.
type draw uint64

func (d *draw) of(n int) int {
	*d = *d*6364136223846793005 + 1442695040888963407
	return int(uint64(*d) >> 33 % uint64(n))
}

// text is of n of these bytes at most.
func (d *draw) text(alphabet string, n int) string {
	var b []byte
	for range d.of(n + 1) {
		b = append(b, alphabet[d.of(len(alphabet))])
	}
	return string(b)
}

func (d *draw) class() string {
	var b []byte
	for range 1 + d.of(1+d.of(20)) {
		low := 0x21 + d.of(0x5e)
		b = append(b, byte(low), byte(low+d.of(min(0x7f-low, 10))))
	}
	return string(b)
}

func (d *draw) signs() string {
	var b []byte
	for range 1 + d.of(1+d.of(20)) {
		switch d.of(3) {
		case 0:
			b = append(b, "-:/"[d.of(3)])
		default:
			b = append(b, "da"[d.of(2)], byte('1'+d.of(9)))
		}
	}
	return string(b)
}

func (d *draw) filter() api.Filter {
	most := []int{0, 1, 2, 9, 10, 99, 100, 199, 200, d.of(201), d.of(201), d.of(20)}[d.of(12)]
	switch d.of(5) {
	case 0:
		return api.Filter{Kind: 1, Max: most}
	case 1, 2:
		return api.Filter{Kind: 2, Max: most, Form: d.class()}
	default:
		return api.Filter{Kind: 3, Max: most, Form: d.signs()}
	}
}

// passing is what a filter lets pass, but that it may be too long.
func (d *draw) passing(f api.Filter) string {
	n := d.of(f.Max + 1)
	if f.Kind == 3 {
		n = len(laid(f.Form))
	}
	may := lets(f)
	var b []byte
	for i := range n {
		c := byte(d.of(256))
		for !may(i, c) {
			c++
		}
		b = append(b, c)
	}
	return string(b)
}

// bent is a text with a byte changed, put in or left out; or with its end cut off.
func (d *draw) bent(s string) string {
	at := d.of(len(s) + 1)
	c := []string{string([]byte{byte(d.of(256))}), string("09az-:/AZ !~+ d1"[d.of(16)])}[d.of(2)]
	switch d.of(4) {
	case 0:
		return s[:at] + c + s[at:]
	case 1:
		return s[:at] + c + s[min(at+1, len(s)):]
	case 2:
		return s[:at] + s[min(at+1, len(s)):]
	default:
		return s[:at]
	}
}

// P13.1

func TestTheChaptersExamples(t *testing.T) {
	class := api.Filter{Kind: api.WhatClass, Max: 5, Form: "azAF"}
	isParse(t, "class 5 azAF", class, api.OK)
	isPlace(t, class, "abF", -1)
	isPlace(t, class, "abG", 2)
	form := api.Filter{Kind: api.WhatForm, Max: 9, Form: "d4-d2"}
	isParse(t, "form 9 d4-d2", form, api.OK)
	isPlace(t, form, "2026-11", -1)
}

func TestRight(t *testing.T) {
	for _, f := range []api.Filter{
		{Kind: 1}, {Kind: 1, Max: 1}, {Kind: 1, Max: 200},
		{Kind: 2, Form: "!~"}, {Kind: 2, Max: 200, Form: "!!"}, {Kind: 2, Max: 1, Form: "~~"}, {Kind: 2, Max: 7, Form: "azaz"}, {Kind: 2, Max: 7, Form: "azAF09"}, {Kind: 2, Max: 7, Form: "AFaz!!"}, {Kind: 2, Max: 7, Form: strings.Repeat("az", 20)}, {Kind: 2, Max: 7, Form: "d1"[1:] + "d"}, {Kind: 2, Max: 7, Form: "--::"},
		{Kind: 3, Form: "d1"}, {Kind: 3, Max: 200, Form: "d9"}, {Kind: 3, Max: 1, Form: "a1"}, {Kind: 3, Max: 1, Form: "a9"}, {Kind: 3, Max: 1, Form: "-"}, {Kind: 3, Max: 1, Form: ":"}, {Kind: 3, Max: 1, Form: "/"}, {Kind: 3, Max: 1, Form: "-:/"}, {Kind: 3, Max: 1, Form: "d1a2d3a4"}, {Kind: 3, Max: 1, Form: strings.Repeat("-", 40)}, {Kind: 3, Max: 200, Form: strings.Repeat("d9", 20)}, {Kind: 3, Max: 10, Form: strings.Repeat("a9", 19) + ":/"}, {Kind: 3, Max: 10, Form: "d1--d1"},
	} {
		isRight(t, f, true)
	}
	for _, f := range wrong {
		isRight(t, f, false)
	}
	for kind := -2; kind < 8; kind++ {
		for most := -3; most < 260; most++ {
			for _, form := range []string{"", "az", "d1", "-", "a1", "19", "--", "1d"} {
				f := api.Filter{Kind: kind, Max: most, Form: form}
				isRight(t, f, right(f))
			}
		}
	}
}

// All Forms of one and of two bytes, and all of few bytes that signs and pairs may be of.
func TestRightIsTheModels(t *testing.T) {
	of := func(form string) {
		for kind := 1; kind <= 3; kind++ {
			f := api.Filter{Kind: kind, Max: 5, Form: form}
			if filter.Right(f) != right(f) {
				t.Fatalf("Right(%v): %t", f, filter.Right(f))
			}
		}
	}
	for i := range 256 {
		of(string([]byte{byte(i)}))
		for j := range 256 {
			of(string([]byte{byte(i), byte(j)}))
		}
	}
	var all func(form string)
	all = func(form string) {
		of(form)
		for i := range "da019-:/ Z" {
			if len(form) < 5 {
				all(form + "da019-:/ Z"[i:i+1])
			}
		}
	}
	all("")
	d := draw(1)
	for range 20000 {
		of(d.bent(d.filter().Form))
		of(d.text("da19-", 45))
	}
}

func TestPlace(t *testing.T) {
	long := strings.Repeat("7", 300)
	for _, x := range []struct {
		f    api.Filter
		s    string
		want int
	}{
		{api.Filter{Kind: 1}, "", -1},
		{api.Filter{Kind: 1}, "a", 0},
		{api.Filter{Kind: 1, Max: 3}, "", -1},
		{api.Filter{Kind: 1, Max: 3}, "ab", -1},
		{api.Filter{Kind: 1, Max: 3}, "\x00\xff\n", -1},
		{api.Filter{Kind: 1, Max: 3}, "abcd", 3},
		{api.Filter{Kind: 1, Max: 3}, "éé", 3},
		{api.Filter{Kind: 1, Max: 200}, long[:200], -1},
		{api.Filter{Kind: 1, Max: 200}, long[:201], 200},
		{api.Filter{Kind: 1, Max: 200}, long, 200},

		{api.Filter{Kind: 2, Form: "az"}, "", -1},
		{api.Filter{Kind: 2, Form: "az"}, "a", 0},
		{api.Filter{Kind: 2, Form: "az"}, "A", 0},
		{api.Filter{Kind: 2, Max: 5, Form: "azAF"}, "", -1},
		{api.Filter{Kind: 2, Max: 5, Form: "azAF"}, "azAFm", -1},
		{api.Filter{Kind: 2, Max: 5, Form: "azAF"}, "azAFmm", 5},
		{api.Filter{Kind: 2, Max: 5, Form: "azAF"}, "azAFmG", 5},
		{api.Filter{Kind: 2, Max: 5, Form: "azAF"}, "azAFG", 4},
		{api.Filter{Kind: 2, Max: 5, Form: "azAF"}, "azAGGm", 3},
		{api.Filter{Kind: 2, Max: 5, Form: "azAF"}, "GGGGGGG", 0},
		{api.Filter{Kind: 2, Max: 5, Form: "azAF"}, "a b", 1},
		{api.Filter{Kind: 2, Max: 5, Form: "!~"}, "!~ ", 2},
		{api.Filter{Kind: 2, Max: 5, Form: "!~"}, "!~\x7f", 2},
		{api.Filter{Kind: 2, Max: 5, Form: "aacc"}, "acab", 3},
		{api.Filter{Kind: 2, Max: 5, Form: "amfz"}, "agmnz", -1},
		{api.Filter{Kind: 2, Max: 200, Form: "79"}, long[:200], -1},
		{api.Filter{Kind: 2, Max: 200, Form: "79"}, long, 200},
		{api.Filter{Kind: 2, Max: 200, Form: "79"}, long[:199] + "6", 199},
		{api.Filter{Kind: 2, Max: 200, Form: "79"}, long[:200] + "6", 200},

		{api.Filter{Kind: 3, Max: 9, Form: "d4-d2"}, "0909-90", -1},
		{api.Filter{Kind: 3, Max: 7, Form: "d4-d2"}, "2026-11", -1},
		{api.Filter{Kind: 3, Max: 9, Form: "d4-d2"}, "", 0},
		{api.Filter{Kind: 3, Max: 9, Form: "d4-d2"}, "20", 2},
		{api.Filter{Kind: 3, Max: 9, Form: "d4-d2"}, "2026", 4},
		{api.Filter{Kind: 3, Max: 9, Form: "d4-d2"}, "2026-1", 6},
		{api.Filter{Kind: 3, Max: 9, Form: "d4-d2"}, "2026-1-", 6},
		{api.Filter{Kind: 3, Max: 9, Form: "d4-d2"}, "2026-111", 7},
		{api.Filter{Kind: 3, Max: 9, Form: "d4-d2"}, "2026-11-11", 7},
		{api.Filter{Kind: 3, Max: 9, Form: "d4-d2"}, "-026-11", 0},
		{api.Filter{Kind: 3, Max: 9, Form: "d4-d2"}, "20261-1", 4},
		{api.Filter{Kind: 3, Max: 9, Form: "d4-d2"}, "202a-1", 3},
		// A record that is longer than Max: nothing passes.
		{api.Filter{Kind: 3, Max: 6, Form: "d4-d2"}, "2026-11", 6},
		{api.Filter{Kind: 3, Max: 6, Form: "d4-d2"}, "2026-1", 6},
		{api.Filter{Kind: 3, Max: 6, Form: "d4-d2"}, "2026-", 5},
		{api.Filter{Kind: 3, Max: 6, Form: "d4-d2"}, "2026:11", 4},
		{api.Filter{Kind: 3, Max: 2, Form: "d4-d2"}, "202", 2},
		{api.Filter{Kind: 3, Max: 2, Form: "d4-d2"}, "20x", 2},
		{api.Filter{Kind: 3, Max: 2, Form: "d4-d2"}, "2x2", 1},
		{api.Filter{Kind: 3, Form: "d4-d2"}, "", 0},
		{api.Filter{Kind: 3, Form: "d4-d2"}, "2", 0},
		{api.Filter{Kind: 3, Max: 200, Form: "a2/d1:a1-"}, "az/0:m-", -1},
		{api.Filter{Kind: 3, Max: 200, Form: "a2/d1:a1-"}, "aZ/0:m-", 1},
		{api.Filter{Kind: 3, Max: 200, Form: "a2/d1:a1-"}, "az/0:m", 6},
		{api.Filter{Kind: 3, Max: 200, Form: "a2/d1:a1-"}, "az/0:m:", 6},
		{api.Filter{Kind: 3, Max: 200, Form: "d1d1"}, "12", -1},
		{api.Filter{Kind: 3, Max: 200, Form: "d1d1"}, "1", 1},
		{api.Filter{Kind: 3, Max: 200, Form: strings.Repeat("d9", 20)}, long[:180], -1},
		{api.Filter{Kind: 3, Max: 200, Form: strings.Repeat("d9", 20)}, long[:181], 180},
		{api.Filter{Kind: 3, Max: 179, Form: strings.Repeat("d9", 20)}, long[:180], 179},
		{api.Filter{Kind: 3, Max: 200, Form: strings.Repeat("d9", 20)}, long[:179], 179},
		{api.Filter{Kind: 3, Max: 200, Form: "-"}, "-", -1},
		{api.Filter{Kind: 3, Max: 200, Form: "-"}, "--", 1},
	} {
		isPlace(t, x.f, x.s, x.want)
	}
}

// Each byte, alone and behind one that passes, against each class of one pair of few, and against each sign.
func TestPlaceOfEachByte(t *testing.T) {
	var filters []api.Filter
	for _, low := range "!09AZaz~" {
		for _, high := range "!09AZaz~" {
			if low <= high {
				filters = append(filters, api.Filter{Kind: 2, Max: 2, Form: string(low) + string(high)})
			}
		}
	}
	for _, form := range []string{"-", ":", "/", "d1", "a1", "d2", "a2", "d9", "a9"} {
		filters = append(filters, api.Filter{Kind: 3, Max: 2, Form: form})
	}
	filters = append(filters, api.Filter{Kind: 1, Max: 2}, api.Filter{Kind: 2, Max: 2, Form: "azAZ09"})
	for _, f := range filters {
		for i := range 256 {
			isPlace(t, f, string([]byte{byte(i)}), place(f, string([]byte{byte(i)})))
			for _, ahead := range "09az-:/AZ!~" {
				s := string(ahead) + string([]byte{byte(i)})
				isPlace(t, f, s, place(f, s))
			}
		}
	}
}

// All texts of few bytes against all Forms of few signs.
func TestPlaceIsTheModels(t *testing.T) {
	var texts, forms []string
	var all func(l *[]string, s string, left int, parts ...string)
	all = func(l *[]string, s string, left int, parts ...string) {
		*l = append(*l, s)
		for _, p := range parts {
			if left > 0 {
				all(l, s+p, left-1, parts...)
			}
		}
	}
	all(&texts, "", 4, "0", "9", "a", "-", " ")
	all(&forms, "", 3, "d1", "d2", "a1", "-", ":")
	for _, form := range forms[1:] {
		for most := range 5 {
			f := api.Filter{Kind: 3, Max: most, Form: form}
			for _, s := range texts {
				isPlace(t, f, s, place(f, s))
			}
		}
	}
}

func TestPlaceOfManyIsTheModels(t *testing.T) {
	d := draw(13)
	through := 0
	for range 20000 {
		f := d.filter()
		s := d.passing(f)
		for range 3 {
			want := place(f, s)
			if want < 0 {
				through++
			}
			isPlace(t, f, s, want)
			s = d.bent(s)
		}
	}
	if through < 5000 || through > 55000 {
		t.Errorf("%d of 60000 pass", through)
	}
}

func TestPlaceOfWhatIsNoFilter(t *testing.T) {
	for _, f := range wrong {
		for _, s := range []string{"", "a", "5", "-", "abc", strings.Repeat("a", 300)} {
			if at, e := filter.Place(f, s); at != 0 || e != api.ErrFilter {
				t.Errorf("Place(%.60v, %.9q): %d, %d", f, s, at, e)
			}
			if ok, e := filter.Pass(f, s); ok || e != api.ErrFilter {
				t.Errorf("Pass(%.60v, %.9q): %t, %d", f, s, ok, e)
			}
		}
	}
}

func TestPlaceOfLongTexts(t *testing.T) {
	long := strings.Repeat("a", 1<<24)
	isPlace(t, api.Filter{Kind: 1, Max: 200}, long, 200)
	isPlace(t, api.Filter{Kind: 2, Max: 200, Form: "az"}, long, 200)
	isPlace(t, api.Filter{Kind: 2, Max: 200, Form: "bz"}, long, 0)
	isPlace(t, api.Filter{Kind: 3, Max: 200, Form: "a9a9"}, long, 18)
}

func TestSize(t *testing.T) {
	for _, x := range []struct {
		form string
		want int
	}{
		{"-", 1}, {":", 1}, {"/", 1}, {"d1", 1}, {"d9", 9}, {"a1", 1}, {"a9", 9},
		{"d4-d2", 7}, {"d4-a9", 14}, {"a2/d1", 4}, {"-:/", 3}, {"d1d1", 2}, {"d9a9", 18},
		{strings.Repeat("-", 40), 40}, {strings.Repeat("d9", 20), 180}, {strings.Repeat("a9", 19) + "--", 173},
	} {
		for _, most := range []int{0, 1, 9, 200} {
			isSize(t, api.Filter{Kind: 3, Max: most, Form: x.form}, x.want, true)
		}
	}
	for _, f := range append([]api.Filter{{Kind: 1}, {Kind: 1, Max: 9}, {Kind: 2, Max: 9, Form: "az"}, {Kind: 2, Max: 9, Form: "19"}, {Kind: 2, Max: 9, Form: "--"}, {Kind: 2, Max: 9, Form: "a~d~"}}, wrong...) {
		isSize(t, f, 0, false)
	}
	d := draw(5)
	for range 5000 {
		form := d.signs()
		isSize(t, api.Filter{Kind: 3, Max: d.of(201), Form: form}, len(laid(form)), true)
	}
}

// P13.2

func TestPrint(t *testing.T) {
	for _, x := range []struct {
		f    api.Filter
		want string
	}{
		{api.Filter{Kind: 1}, "len 0"},
		{api.Filter{Kind: 1, Max: 9}, "len 9"},
		{api.Filter{Kind: 1, Max: 10}, "len 10"},
		{api.Filter{Kind: 1, Max: 200}, "len 200"},
		{api.Filter{Kind: 2, Max: 5, Form: "azAF"}, "class 5 azAF"},
		{api.Filter{Kind: 2, Form: "!~"}, "class 0 !~"},
		{api.Filter{Kind: 2, Max: 200, Form: "--"}, "class 200 --"},
		{api.Filter{Kind: 3, Max: 9, Form: "d4-d2"}, "form 9 d4-d2"},
		{api.Filter{Kind: 3, Form: "/"}, "form 0 /"},
		{api.Filter{Kind: 3, Max: 100, Form: strings.Repeat("a9", 20)}, "form 100 " + strings.Repeat("a9", 20)},
		{api.Filter{Kind: 2, Max: 100, Form: strings.Repeat("a~", 20)}, "class 100 " + strings.Repeat("a~", 20)},
	} {
		isPrint(t, x.f, x.want, api.OK)
		isParse(t, x.want, x.f, api.OK)
	}
	for _, f := range wrong {
		isPrint(t, f, "", api.ErrFilter)
	}
}

func TestParseRefusesWhatIsNoPrint(t *testing.T) {
	for _, s := range []string{
		"", " ", "5", "len", "class", "form", "len ", "len  5", " len 5", "len 5 ", "len 5\n", "len5", "len\t5", "Len 5", "LEN 5", "le 5", "lens 5", "len 5 x", "len 5 az", "len 5 d1",
		"len 05", "len 00", "len 000", "len +5", "len -0", "len -1", "len 5.0", "len 0x5", "len 5_0", "len 1e1", "len five", "len ٣", "len 201", "len 256", "len 1000", "len 4294967296", "len 4294967301", "len 9223372036854775807", "len 9223372036854775808", "len 18446744073709551616", "len 18446744073709551621", "len -9223372036854775808", "len 99999999999999999999", "len " + strings.Repeat("9", 1000), "len " + strings.Repeat("0", 1000),
		"class 5", "class 5 ", "class az", "class  az", "class 5 a", "class 5 za", "class 5 azA", "class 5  az", "class 5 az ", "class 5 a z", "class 5 az AF", "class 5 a ~b", "class 5 az\n", "class 05 az", "class 201 az", "class -1 az", "class 5 a\x7f", "class 5 \x80\x81", "class 5 " + strings.Repeat("az", 21), "class 5az", "classes 5 az", "5 class az",
		"form 5", "form 5 ", "form 5 d", "form 5 d0", "form 5 x1", "form 5 d1 d1", "form 5  d1", "form 5 d1 ", "form 5 d10", "form 5 D1", "form 5 d1.", "form 05 d1", "form 201 d1", "form 5 " + strings.Repeat("-", 41), "forms 5 d1", "form 5d1", "form d1", "class 5 d1", "form 5 az", "size 5", "0 5", "1 5", "2 5 az",
		strings.Repeat(" ", 1000), strings.Repeat("len 5 ", 1000), "len 5" + strings.Repeat("\x00", 1000), "class 5 " + strings.Repeat("az", 1<<20),
	} {
		isParse(t, s, none, api.ErrFilter)
	}
}

func TestParseIsTheModels(t *testing.T) {
	d := draw(17)
	ends := map[bool]int{}
	for range 30000 {
		s, e := filter.Print(d.filter())
		if e != api.OK {
			t.Fatal("no print", e)
		}
		for range 3 {
			s = d.bent(s)
			want, ok := parse(s)
			ends[ok]++
			if ok {
				isParse(t, s, want, api.OK)
			} else {
				isParse(t, s, none, api.ErrFilter)
			}
		}
	}
	if ends[true] < 5000 || ends[false] < 5000 {
		t.Errorf("of the prints %v are, or not", ends)
	}
}

// What Name tells of a kind is what its filters' prints begin with; of other numbers there is none.
func TestName(t *testing.T) {
	for kind, f := range map[int]api.Filter{1: {Kind: 1}, 2: {Kind: 2, Form: "az"}, 3: {Kind: 3, Form: "d1"}} {
		name, ok := filter.Name(kind)
		s, _ := filter.Print(f)
		if want, _, _ := strings.Cut(s, " "); name == "" || name != want || !ok {
			t.Errorf("Name(%d): %q, %t; want %q", kind, name, ok, want)
		}
	}
	for _, kind := range []int{0, 4, 5, -1, -2, -3, 256, 257, 258, 259, 1 << 32, 1<<32 + 1, math.MinInt, math.MinInt + 1, math.MaxInt} {
		if name, ok := filter.Name(kind); name != "" || ok {
			t.Errorf("Name(%d): %q, %t", kind, name, ok)
		}
	}
}

// P13.3

func TestFiltersAndTheirPrintsAreOneToOne(t *testing.T) {
	seen := map[string]api.Filter{}
	of := func(f api.Filter) {
		s, e := filter.Print(f)
		if other, there := seen[s]; e != api.OK || there && other != f {
			t.Fatalf("Print(%v): %q, %d, as of %v", f, s, e, other)
		}
		seen[s] = f
		isParse(t, s, f, api.OK)
	}
	for most := range 201 {
		of(api.Filter{Kind: 1, Max: most})
		for _, form := range []string{"--", "d1", "a1", "11", "-:", "//"} {
			for kind := 2; kind <= 3; kind++ {
				if f := (api.Filter{Kind: kind, Max: most, Form: form}); right(f) {
					of(f)
				}
			}
		}
	}
	d := draw(19)
	for range 10000 {
		of(d.filter())
	}
	// What has a filter is that one's print, and no other one's.
	for s := range seen {
		for range 5 {
			bent := d.bent(s)
			if f, e := filter.Parse(bent); e == api.OK {
				isPrint(t, f, bent, api.OK)
			}
		}
	}
}

// A filter is wider, if its Max is greater, or it has a pair more; all that has a Max passes that length.
func TestWhatPassesPassesAWiderOne(t *testing.T) {
	d := draw(23)
	through := 0
	for range 20000 {
		f := d.filter()
		s := d.passing(f)
		if ok, _ := filter.Pass(f, s); !ok {
			continue
		}
		through++
		isPlace(t, api.Filter{Kind: 1, Max: f.Max}, s, -1)
		wider := f
		wider.Max += d.of(201 - f.Max)
		isPlace(t, wider, s, -1)
		if f.Kind == 2 && len(f.Form) < 40 {
			low := 0x21 + d.of(0x5e)
			more := string([]byte{byte(low), byte(low + d.of(0x7f-low))})
			at := 2 * d.of(len(f.Form)/2+1)
			wider.Form = f.Form[:at] + more + f.Form[at:]
			isPlace(t, wider, s, -1)
			wider.Form = "!~"
			isPlace(t, wider, s, -1)
		}
	}
	if through < 5000 {
		t.Errorf("only %d pass", through)
	}
}

// A record has the size that is told, and who passes has it, and no one else.
func TestARecordHasItsSize(t *testing.T) {
	d := draw(29)
	for range 5000 {
		f := api.Filter{Kind: 3, Max: d.of(201), Form: d.signs()}
		s := d.passing(f)
		n, ok := filter.Size(f)
		if !ok || n != len(s) {
			t.Fatalf("Size(%v): %d, %t; a record has %d", f, n, ok, len(s))
		}
		if pass, _ := filter.Pass(f, s); pass != (n <= f.Max) {
			t.Fatalf("Pass(%v, %q): %t", f, s, pass)
		}
	}
}

// What is ahead of the place that is told can go on, and not with the byte that is there.
func TestPlaceIsThatOfTheFirstByte(t *testing.T) {
	d := draw(31)
	for range 20000 {
		f := d.filter()
		s := d.bent(d.bent(d.passing(f)))
		at, _ := filter.Place(f, s)
		if at < 0 {
			continue
		}
		if at > len(s) || at > f.Max {
			t.Fatalf("Place(%v, %q): %d", f, s, at)
		}
		if before, _ := filter.Place(f, s[:at]); before >= 0 && before < at {
			t.Fatalf("Place(%v, %q): %d, and of what is ahead %d", f, s, at, before)
		}
		if at < len(s) {
			isPlace(t, f, s[:at+1], at)
		}
	}
}

// R4

func TestAnswersHangOnArgumentsAlone(t *testing.T) {
	for range 2 {
		for _, f := range wrong[:9] {
			isRight(t, f, false)
		}
		isParse(t, "len 201", none, api.ErrFilter)
		isParse(t, "form 9 d4-d2", api.Filter{Kind: 3, Max: 9, Form: "d4-d2"}, api.OK)
		isPlace(t, api.Filter{Kind: 3, Max: 9, Form: "d4-d2"}, "2026:11", 4)
		isPlace(t, api.Filter{Kind: 2, Max: 9, Form: "09-:"}, "2026:11", -1)
		isPrint(t, api.Filter{Kind: 2, Max: 9, Form: "09-:"}, "class 9 09-:", api.OK)
		isSize(t, api.Filter{Kind: 3, Max: 9, Form: "d4-d2"}, 7, true)
	}
}

// Whoever asks first, all are answered the same.
func TestManyMayAskAtOnce(t *testing.T) {
	var all sync.WaitGroup
	for range 16 {
		all.Go(func() {
			for range 100 {
				f, e := filter.Parse("class 5 azAF")
				s, g := filter.Print(f)
				at, h := filter.Place(f, "abG")
				if s != "class 5 azAF" || at != 2 || e != api.OK || g != api.OK || h != api.OK {
					t.Error(f, s, at, e, g, h)
				}
				if name, ok := filter.Name(f.Kind); name != "class" || !ok {
					t.Error(name, ok)
				}
			}
		})
	}
	all.Wait()
}
