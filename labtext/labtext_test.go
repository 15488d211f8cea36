package labtext_test

import (
	"fmt"
	"math"
	"math/big"
	"math/bits"
	"regexp"
	"strconv"
	"strings"
	"testing"

	"plimsoll/api"
	"plimsoll/labtext"
)

const full = math.MaxUint64

var (
	bottom = api.Label{Level: 0, Cats: 0, Integ: 7}
	top    = api.Label{Level: 15, Cats: full, Integ: 0}
)

// wrong are no labels: the nearest ones, those that are one modulo 8, 16, 256 or 2^32, the utmost.
var wrong = []api.Label{
	{Level: -1}, {Level: 16}, {Integ: -1}, {Integ: 8},
	{Level: -1, Cats: full, Integ: 7}, {Level: 16, Cats: 1, Integ: 7}, {Level: 15, Cats: 1, Integ: 8}, {Level: 15, Integ: -1},
	{Level: -1, Integ: -1}, {Level: 16, Integ: 8}, {Level: -1, Integ: 8}, {Level: 16, Integ: -1},
	{Level: 255}, {Integ: 255}, {Level: 256}, {Integ: 256}, {Level: -256}, {Integ: -256}, {Level: 259, Integ: 5},
	{Level: -16}, {Integ: -8}, {Level: 1 << 32}, {Integ: 1 << 32}, {Level: -1 << 32}, {Integ: -1 << 32},
	{Level: math.MinInt}, {Level: math.MaxInt}, {Integ: math.MinInt}, {Integ: math.MaxInt},
	{Level: math.MaxInt, Cats: full, Integ: math.MinInt}, {Level: math.MinInt, Integ: math.MaxInt},
}

// sets are the edges, each single category, each but one, and sets without a pattern.
func sets() []uint64 {
	l := []uint64{0, 3, 33, 4097, 1<<63 | 1, 1<<63 | 1<<62, full, full >> 1, full - 1, 0x5555555555555555, 0x3ff, full &^ 0x3ff}
	for i := range 64 {
		l = append(l, 1<<i, full^1<<i)
	}
	x := uint64(0x9e3779b97f4a7c15)
	for range 100 {
		x = bits.RotateLeft64(x*0xd1342543de82ef95+1, 23)
		l = append(l, x)
	}
	return l
}

func grid(levels, integs []int) []api.Label {
	var l []api.Label
	for _, level := range levels {
		for _, integ := range integs {
			for _, s := range sets() {
				l = append(l, api.Label{Level: level, Cats: s, Integ: integ})
			}
		}
	}
	return l
}

// many labels: all levels and integrities, with all those sets.
func many() []api.Label {
	return grid([]int{0, 1, 2, 3, 4, 5, 6, 7, 8, 9, 10, 11, 12, 13, 14, 15}, []int{0, 1, 2, 3, 4, 5, 6, 7})
}

// few are few enough to be cut at each byte.
func few() []api.Label {
	return grid([]int{0, 9, 15}, []int{0, 7})
}

// textOf goes from the greatest category down, and sets each ahead of the others: another way than the program's.
func textOf(a api.Label) string {
	in := ""
	for i := 63; i >= 0; i-- {
		if a.Cats>>i%2 == 1 {
			in = fmt.Sprintf(",%d%s", i, in)
		}
	}
	if in != "" {
		in = "{" + in[1:] + "}"
	}
	return fmt.Sprintf("L%d%sI%d", a.Level, in, a.Integ)
}

// shape has what a pattern can tell of a label's text: all but that categories rise.
var shape = regexp.MustCompile(`\AL(0|[1-9]|1[0-5])(?:\{((?:0|[1-9]|[1-5][0-9]|6[0-3])(?:,(?:0|[1-9]|[1-5][0-9]|6[0-3]))*)\})?I([0-7])\z`)

func number(s string) int {
	n, _ := strconv.Atoi(s)
	return n
}

// byShape is the label whose text s is, if it is one: another way than the program's.
func byShape(s string) (api.Label, bool) {
	m := shape.FindStringSubmatch(s)
	if m == nil {
		return api.Label{}, false
	}
	a := api.Label{Level: number(m[1]), Integ: number(m[3])}
	last := -1
	for _, x := range strings.FieldsFunc(m[2], func(c rune) bool { return c == ',' }) {
		i := number(x)
		if i <= last {
			return api.Label{}, false
		}
		a.Cats |= 1 << i
		last = i
	}
	return a, true
}

// endings are ends of labels' texts: what begins one can be made whole by one of these.
var endings = []string{
	"", "0", "I0", "0I0", "L0I0", "}I0", "63}I0",
	"0}I0", "1}I0", "2}I0", "3}I0", "4}I0", "5}I0", "6}I0", "7}I0", "8}I0", "9}I0",
}

// goesOn tells whether some label's text begins with s.
func goesOn(s string) bool {
	for _, x := range endings {
		if _, ok := byShape(s + x); ok {
			return true
		}
	}
	return false
}

// placeOf is how much of s some label's text begins with: its longest beginning with which one goes on.
func placeOf(s string) int {
	for size := range len(s) {
		if !goesOn(s[:size]) {
			return size - 1
		}
	}
	if goesOn(s) {
		return len(s)
	}
	return len(s) - 1
}

func wantPrint(t *testing.T, a api.Label, want string, wantE api.Errno) {
	t.Helper()
	if s, e := labtext.Print(a); s != want || e != wantE {
		t.Errorf("Print(%v): %q, %d; want %q, %d", a, s, e, want, wantE)
	}
}

func wantParse(t *testing.T, s string, want api.Label) {
	t.Helper()
	if a, at, e := labtext.Parse(s); a != want || at != 0 || e != api.OK {
		t.Errorf("Parse(%q): %v, %d, %d; want %v, 0, OK", s, a, at, e, want)
	}
}

func wantPlace(t *testing.T, s string, want int) {
	t.Helper()
	if a, at, e := labtext.Parse(s); a != (api.Label{}) || at != want || e != api.ErrText {
		t.Errorf("Parse(%q): %v, %d, %d; want none, %d, ErrText", s, a, at, e, want)
	}
}

// wantAsModel holds Parse against the pattern.
func wantAsModel(t *testing.T, s string) {
	t.Helper()
	if a, ok := byShape(s); ok {
		wantParse(t, s, a)
	} else {
		wantPlace(t, s, placeOf(s))
	}
}

// The chapter's examples

func TestExamples(t *testing.T) {
	a := api.Label{Level: 3, Cats: 1 | 1<<12, Integ: 5}
	wantPrint(t, a, "L3{0,12}I5", api.OK)
	wantParse(t, "L3{0,12}I5", a)
	wantPrint(t, bottom, "L0I7", api.OK)
	wantParse(t, "L0I7", bottom)
	wantPlace(t, "L3{2,1}I5", 6)
}

// P5.1

func TestPrint(t *testing.T) {
	wantPrint(t, api.Label{}, "L0I0", api.OK)
	wantPrint(t, api.Label{Level: 15, Integ: 7}, "L15I7", api.OK)
	wantPrint(t, api.Label{Level: 10, Cats: 1, Integ: 1}, "L10{0}I1", api.OK)
	wantPrint(t, api.Label{Cats: 1 << 63}, "L0{63}I0", api.OK)
	wantPrint(t, api.Label{Level: 9, Cats: 1<<9 | 1<<10 | 1<<11, Integ: 2}, "L9{9,10,11}I2", api.OK)
	for _, a := range many() {
		wantPrint(t, a, textOf(a), api.OK)
	}
}

func TestPrintWhatIsNoLabel(t *testing.T) {
	for _, a := range wrong {
		wantPrint(t, a, "", api.ErrLabel)
	}
}

func TestDigits(t *testing.T) {
	numbers := []int{0, 1, 9, 10, 11, 19, 20, 99, 100, 101, 120, 200, 999, 1000, 100000, math.MaxInt32, math.MaxInt32 + 1, math.MaxInt - 1, math.MaxInt}
	for p := 1; p <= math.MaxInt/10; p *= 10 {
		numbers = append(numbers, p-1, p, p+1, 7*p, p*10-1)
	}
	for n := range 2000 {
		numbers = append(numbers, n)
	}
	for _, n := range numbers {
		if s, want := labtext.Digits(n), big.NewInt(int64(n)).String(); s != want {
			t.Errorf("Digits(%d): %q; want %q", n, s, want)
		}
	}
}

func TestDigitsBelowNought(t *testing.T) {
	for _, n := range []int{-1, -2, -9, -10, -100, -256, math.MinInt32, -1 << 32, math.MinInt + 1, math.MinInt} {
		if s := labtext.Digits(n); s != "" {
			t.Errorf("Digits(%d): %q; want none", n, s)
		}
	}
}

// P5.2

func TestParse(t *testing.T) {
	wantParse(t, "L0I0", api.Label{})
	wantParse(t, "L15I7", api.Label{Level: 15, Integ: 7})
	wantParse(t, "L10{0}I1", api.Label{Level: 10, Cats: 1, Integ: 1})
	wantParse(t, "L1{62,63}I0", api.Label{Level: 1, Cats: 3 << 62})
	for _, a := range many() {
		wantParse(t, textOf(a), a)
	}
}

// TestParsePlaces has each sign and each number at its edge, with nothing missing ahead of it.
func TestParsePlaces(t *testing.T) {
	for _, x := range []struct {
		s  string
		at int
	}{
		{" L0I7", 0}, {"0", 0}, {"I7", 0}, {"{", 0}, {"\x00", 0}, {"l", 0}, {"LL", 1}, {"L I7", 1}, {"L{", 1}, {"L-1I0", 1}, {"L+1I0", 1}, {"L,", 1}, {"LX", 1},
		{"L00", 2}, {"L0 ", 2}, {"L05I0", 2}, {"L015I0", 2}, {"L16", 2}, {"L19I0", 2}, {"L20", 2}, {"L90", 2}, {"L99999999999999999999", 2}, {"L150", 3}, {"L100I0", 3}, {"L1}I0", 2}, {"L1,I0", 2}, {"L1i0", 2}, {"L12x", 3},
		{"L1{}", 3}, {"L1{,", 3}, {"L1{{", 3}, {"L1{I0", 3}, {"L1{-1}", 3}, {"L1{ 1}", 3}, {"L1{x", 3},
		{"L1{00}", 4}, {"L1{01}", 4}, {"L1{64", 4}, {"L1{69", 4}, {"L1{70", 4}, {"L1{630}", 5}, {"L1{100}", 5}, {"L1{9999999999999999999999}", 4},
		{"L1{1,}", 5}, {"L1{1,,2}", 5}, {"L1{1, 2}", 5}, {"L1{1 ,2}", 4}, {"L1{1;2}", 4}, {"L1{1I0", 4}, {"L1{1{", 4},
		{"L1{0,0}", 5}, {"L1{1,0}", 5}, {"L1{1,01}", 5}, {"L1{1,1}", 6}, {"L1{6,6}", 6}, {"L1{6,64}", 6}, {"L1{7,7}", 5}, {"L1{8,7}", 5}, {"L1{7,8}", 7},
		{"L1{10,1}", 7}, {"L1{10,10}", 7}, {"L1{18,19}", 9}, {"L1{19,1}", 6}, {"L1{20,1}", 6}, {"L1{20,20}", 7}, {"L1{29,2", 6}, {"L1{58,5", 7}, {"L1{58,58", 7}, {"L1{58,59", 8}, {"L1{59,5", 6}, {"L1{60,6}", 7}, {"L1{62,6}", 7}, {"L1{62,62", 7}, {"L1{62,7", 6}, {"L1{62,60", 7},
		{"L1{63,", 5}, {"L1{63,6", 5}, {"L1{62,63,", 8}, {"L1{0,63,1}", 7},
		{"L1{1}", 5}, {"L1{1}{2}I0", 5}, {"L1{1}0", 5}, {"L1{1}}", 5}, {"L1{1},", 5}, {"L1{1}I", 6}, {"L1{1}I8", 6}, {"L1{1}I-", 6},
		{"L1I8", 3}, {"L1I9", 3}, {"L1II", 3}, {"L1I-1", 3}, {"L1I07", 4}, {"L1I10", 4}, {"L1I77", 4}, {"L1I7\n", 4}, {"L1I7\x00", 4}, {"L1I7{1}", 4}, {"L0I7L0I7", 4},
	} {
		wantPlace(t, x.s, x.at)
	}
}

// TestParseCutShort: what a label's text begins with is wrong at its end; with a byte behind that none goes on with, there too.
func TestParseCutShort(t *testing.T) {
	for _, a := range few() {
		s := textOf(a)
		for size := range s {
			wantPlace(t, s[:size], size)
		}
		for _, more := range []string{"0", "I", " ", "\n", "\x00", "\xff", s} {
			wantPlace(t, s+more, len(s))
		}
	}
}

// TestParseBytes has bytes that are no runes, and runes of more bytes than one, some of them digits: places are counted in bytes.
func TestParseBytes(t *testing.T) {
	s := "L12{0,15}I5"
	for at := range s {
		for _, x := range []string{"\x80", "\xff", "\xc3", "\xcc", "ä", "٣", "３", "１", "\U0001d7d1", "Ｌ", "ı", "\ufffd", "\x00", "\xed\xa0\x80", "\xf4\x90\x80\x80"} {
			wantPlace(t, s[:at]+x+s[at:], at)
			wantPlace(t, s[:at]+x+s[at+1:], at)
			wantPlace(t, s[:at]+x, at)
			wantPlace(t, x+s[at:], 0)
		}
	}
}

// TestParseEachByte goes on from each beginning of some texts with each byte there is.
func TestParseEachByte(t *testing.T) {
	for _, s := range []string{"L0I7", "L15I0", "L3{0,12}I5", "L9{5,6,62,63}I1", "L10{58,59,60}I0", "L1{10,11,20}I7"} {
		for size := range len(s) + 1 {
			for b := range 256 {
				ahead := s[:size] + string([]byte{byte(b)})
				wantAsModel(t, ahead)
				wantAsModel(t, ahead+"0}I0")
			}
		}
	}
}

// TestParseShortTexts goes through what labels' texts begin with, and one sign more than that, as far as so many bytes.
func TestParseShortTexts(t *testing.T) {
	count := 0
	var from func(s string, most int)
	from = func(s string, most int) {
		for _, c := range "LI{},0123456789 " {
			x := s + string(c)
			wantAsModel(t, x)
			count++
			if len(x) < most && goesOn(x) {
				from(x, most)
			}
		}
	}
	from("", 5)
	from("L1{2,", 9)
	from("L1{19,", 9)
	from("L1{58,", 9)
	from("L1{61,", 9)
	from("L1{62,", 9)
	if count < 5000 {
		t.Errorf("%d texts alone were tried", count)
	}
}

// TestParsePairs has all pairs of categories and what lies beside them, in both orders, and twice the same.
func TestParsePairs(t *testing.T) {
	for i := range 70 {
		for j := range 70 {
			wantAsModel(t, fmt.Sprintf("L3{%d,%d}I5", i, j))
		}
		wantAsModel(t, fmt.Sprintf("L3{%02d}I5", i))
		wantAsModel(t, fmt.Sprintf("L3{1,%02d}I5", i))
	}
}

func TestParseLevelsAndIntegs(t *testing.T) {
	for n := range 1200 {
		wantAsModel(t, fmt.Sprintf("L%dI3", n))
		wantAsModel(t, fmt.Sprintf("L%d{3}I3", n))
		wantAsModel(t, fmt.Sprintf("L3I%d", n))
		wantAsModel(t, fmt.Sprintf("L3{3}I%d", n))
		wantAsModel(t, fmt.Sprintf("L%04dI3", n))
		wantAsModel(t, fmt.Sprintf("L3I%04d", n))
	}
}

// TestParseLongTexts ends soon, and does not count past what numbers hold.
func TestParseLongTexts(t *testing.T) {
	const long = 1 << 20
	for _, x := range []struct {
		ahead, again string
		at           int
	}{
		{"", "L", 1}, {"L", "0", 2}, {"L", "1", 3}, {"L", "9", 2}, {"L1{", "0", 4}, {"L1{", "1", 5}, {"L1{", "1,", 6}, {"L1{", ",", 3}, {"L1{", "{", 3}, {"L1I", "0", 4}, {"L0I7", "\x00", 4}, {"L1{0}", "I0", 7},
	} {
		wantPlace(t, x.ahead+strings.Repeat(x.again, long), x.at)
	}
}

// P5.3

func TestLabelsAreOneToOne(t *testing.T) {
	seen := map[string]api.Label{}
	for _, a := range many() {
		s, e := labtext.Print(a)
		if e != api.OK || s == "" {
			t.Errorf("Print(%v): %q, %d", a, s, e)
		}
		if other, ok := seen[s]; ok && other != a {
			t.Errorf("%v and %v are both %q", a, other, s)
		}
		seen[s] = a
		wantParse(t, s, a)
	}
	if s, e := labtext.Print(top); len(s) != 188 || e != api.OK {
		t.Errorf("the top has a text of %d bytes, %d; want 188", len(s), e)
	}
}

// changed are texts that differ from s by one byte, left out, put in, or another one.
func changed(s string) []string {
	var l []string
	for at := range len(s) + 1 {
		for _, c := range "LI{},0123456789" {
			l = append(l, s[:at]+string(c)+s[at:])
			if at < len(s) {
				l = append(l, s[:at]+string(c)+s[at+1:])
			}
		}
		if at < len(s) {
			l = append(l, s[:at]+s[at+1:])
		}
	}
	return l
}

// TestTextsAreOneToOne goes the other way: whatever is read is printed as what it was read off.
func TestTextsAreOneToOne(t *testing.T) {
	right := 0
	for _, s := range []string{"L0I7", "L15I0", "L1I1", "L3{0,12}I5", "L12{5}I3", "L9{5,6,62,63}I1", "L10{0,1,58,59,60}I0", textOf(top)} {
		for _, x := range changed(s) {
			a, _, e := labtext.Parse(x)
			if e != api.OK {
				continue
			}
			right++
			if back, e := labtext.Print(a); back != x || e != api.OK {
				t.Errorf("Parse(%q): %v; back: %q, %d", x, a, back, e)
			}
		}
	}
	if right < 200 {
		t.Errorf("of the texts tried, %d alone are labels': too few were held against anything", right)
	}
}

// R4

func TestAnswersHangOnArgumentsAlone(t *testing.T) {
	for range 3 {
		wantPrint(t, api.Label{Level: 16}, "", api.ErrLabel)
		wantPrint(t, top, textOf(top), api.OK)
		wantPlace(t, "L1{2,1}I0", 6)
		wantParse(t, "L1{1,2}I0", api.Label{Level: 1, Cats: 6})
		wantPlace(t, "", 0)
		wantParse(t, "L0I7", bottom)
	}
}
