package labcode_test

import (
	"math"
	"slices"
	"strings"
	"testing"

	"plimsoll/api"
	"plimsoll/labcode"
)

const full = math.MaxUint64

var (
	bottom = api.Label{Level: 0, Cats: 0, Integ: 7}
	top    = api.Label{Level: 15, Cats: full, Integ: 0}
	some1  = api.Label{Level: 3, Cats: 1, Integ: 5}
	some2  = api.Label{Level: 4, Cats: 3, Integ: 5}
)

// wrong are no labels: the nearest ones, those that are one modulo 8, 16, 256 or 2^32, the utmost.
var wrong = []api.Label{
	{Level: -1}, {Level: 16}, {Integ: -1}, {Integ: 8},
	{Level: -1, Cats: full, Integ: 7}, {Level: 16, Cats: 1, Integ: 7}, {Level: 15, Cats: 1, Integ: 8}, {Level: 15, Integ: -1},
	{Level: -1, Integ: -1}, {Level: 16, Integ: 8}, {Level: -1, Integ: 8}, {Level: 16, Integ: -1},
	{Level: 255}, {Integ: 255}, {Level: 256}, {Integ: 256}, {Level: -256}, {Integ: -256}, {Level: 259, Integ: 5},
	{Level: -16}, {Integ: -8}, {Level: 1 << 32}, {Integ: 1 << 32}, {Level: -1 << 32}, {Integ: -1 << 32},
	{Level: math.MinInt}, {Level: math.MaxInt}, {Integ: math.MinInt}, {Integ: math.MaxInt},
	{Level: math.MaxInt, Cats: full, Integ: math.MinInt}, {Level: math.MinInt, Integ: math.MaxInt},
}

// behinds are what may stand behind, some of it like labels' bytes itself.
var behinds = []string{
	"", "\x00", "z", "\xff\xff", "\x03\x05\x00\x00\x00\x00\x00\x00\x00", "\x03\x05\x00\x00\x00\x00\x00\x00\x00\x01",
	"\x10\x00\x00\x00\x00\x00\x00\x00\x00\x00", strings.Repeat("\xc9", 300),
}

// noCodes are ten bytes each, and no label's: the level, the integrity, or both are too great.
var noCodes = []string{
	"\x10\x00\x00\x00\x00\x00\x00\x00\x00\x00",
	"\x00\x08\x00\x00\x00\x00\x00\x00\x00\x00",
	"\x0f\x08\xff\xff\xff\xff\xff\xff\xff\xff",
	"\x10\x07\xff\xff\xff\xff\xff\xff\xff\xff",
	"\x10\x08\x00\x00\x00\x00\x00\x00\x00\x01",
	"\x80\x00\x00\x00\x00\x00\x00\x00\x00\x00",
	"\x00\x80\x00\x00\x00\x00\x00\x00\x00\x00",
	"\xff\xff\xff\xff\xff\xff\xff\xff\xff\xff",
	"\x00\x0f\x00\x00\x00\x00\x00\x00\x00\x00",
}

func grid(levels []int, sets []uint64, integs []int) []api.Label {
	var l []api.Label
	for _, level := range levels {
		for _, s := range sets {
			for _, integ := range integs {
				l = append(l, api.Label{Level: level, Cats: s, Integ: integ})
			}
		}
	}
	return l
}

// many labels: all levels and integrities, with sets whose bytes differ.
func many() []api.Label {
	return grid(
		[]int{0, 1, 2, 3, 4, 5, 6, 7, 8, 9, 10, 11, 12, 13, 14, 15},
		[]uint64{0, 1, 255, 256, 0x0102030405060708, 0xf0e0d0c0b0a09080, 1 << 63, full},
		[]int{0, 1, 2, 3, 4, 5, 6, 7},
	)
}

// few are few enough to be gone through two at a time, with all there is behind.
func few() []api.Label {
	return grid([]int{0, 7, 15}, []uint64{0, 1, 2, 3, 1<<63 | 1, full}, []int{0, 4, 7})
}

// bytesOf takes a set's digits to the base of 256 off the end, another way than the program's.
func bytesOf(labels ...api.Label) string {
	var all []byte
	for _, a := range labels {
		l := make([]byte, 10)
		l[0], l[1] = byte(a.Level), byte(a.Integ)
		for i, n := 9, a.Cats; i >= 2; i-- {
			l[i] = byte(n % 256)
			n /= 256
		}
		all = append(all, l...)
	}
	return string(all)
}

// liesUnder goes by the chapter's words, category by category: another way than the program's.
func liesUnder(a, b api.Label) bool {
	for i := range 64 {
		if a.Cats>>i%2 == 1 && b.Cats>>i%2 == 0 {
			return false
		}
	}
	return !(a.Level > b.Level) && !(a.Integ < b.Integ)
}

func wantPut(t *testing.T, a api.Label, want string, wantE api.Errno) {
	t.Helper()
	if s, e := labcode.Put(a); s != want || e != wantE {
		t.Errorf("Put(%v): %x, %d; want %x, %d", a, s, e, want, wantE)
	}
}

func wantGet(t *testing.T, s string, want api.Label, wantRest string, wantE api.Errno) {
	t.Helper()
	if a, rest, e := labcode.Get(s); a != want || rest != wantRest || e != wantE {
		t.Errorf("Get(%x): %v, %x, %d; want %v, %x, %d", s, a, rest, e, want, wantRest, wantE)
	}
}

func wantPutRange(t *testing.T, low, high api.Label, want string, wantE api.Errno) {
	t.Helper()
	if s, e := labcode.PutRange(low, high); s != want || e != wantE {
		t.Errorf("PutRange(%v, %v): %x, %d; want %x, %d", low, high, s, e, want, wantE)
	}
}

func wantGetRange(t *testing.T, s string, low, high api.Label, wantRest string, wantE api.Errno) {
	t.Helper()
	if a, b, rest, e := labcode.GetRange(s); a != low || b != high || rest != wantRest || e != wantE {
		t.Errorf("GetRange(%x): %v, %v, %x, %d; want %v, %v, %x, %d", s, a, b, rest, e, low, high, wantRest, wantE)
	}
}

func wantNoRange(t *testing.T, s string, wantE api.Errno) {
	t.Helper()
	wantGetRange(t, s, api.Label{}, api.Label{}, "", wantE)
}

func wantPutList(t *testing.T, l []api.Label, want string, wantE api.Errno) {
	t.Helper()
	if s, e := labcode.PutList(l); s != want || e != wantE {
		t.Errorf("PutList(%v): %x, %d; want %x, %d", l, s, e, want, wantE)
	}
}

func wantGetList(t *testing.T, s string, want []api.Label, wantE api.Errno) {
	t.Helper()
	if l, e := labcode.GetList(s); !slices.Equal(l, want) || e != wantE {
		t.Errorf("GetList(%x): %v, %d; want %v, %d", s, l, e, want, wantE)
	}
}

// The chapter's example

func TestExample(t *testing.T) {
	wantPut(t, some1, "\x03\x05\x00\x00\x00\x00\x00\x00\x00\x01", api.OK)
	wantGet(t, "\x03\x05\x00\x00\x00\x00\x00\x00\x00\x01", some1, "", api.OK)
}

// P4.1: one label

func TestPut(t *testing.T) {
	wantPut(t, api.Label{}, "\x00\x00\x00\x00\x00\x00\x00\x00\x00\x00", api.OK)
	wantPut(t, bottom, "\x00\x07\x00\x00\x00\x00\x00\x00\x00\x00", api.OK)
	wantPut(t, top, "\x0f\x00\xff\xff\xff\xff\xff\xff\xff\xff", api.OK)
	wantPut(t, api.Label{Level: 9, Cats: 0x0123456789abcdef, Integ: 6}, "\x09\x06\x01\x23\x45\x67\x89\xab\xcd\xef", api.OK)
	for _, a := range many() {
		wantPut(t, a, bytesOf(a), api.OK)
	}
}

func TestPutWhatIsNoLabel(t *testing.T) {
	for _, a := range wrong {
		wantPut(t, a, "", api.ErrLabel)
	}
}

func TestGet(t *testing.T) {
	for _, a := range many() {
		for _, behind := range behinds {
			wantGet(t, bytesOf(a)+behind, a, behind, api.OK)
		}
	}
}

// TestGetTooFew has bytes that no label begins with too: ErrMore is named first.
func TestGetTooFew(t *testing.T) {
	for size := range 10 {
		for _, s := range append([]string{bytesOf(some1), bytesOf(bottom), bytesOf(top)}, noCodes...) {
			wantGet(t, s[:size], api.Label{}, "", api.ErrMore)
		}
	}
}

// TestGetFirstTwo goes through all that the level's and the integrity's bytes can be.
func TestGetFirstTwo(t *testing.T) {
	for i := range 1 << 16 {
		level, integ := i>>8, i&255
		s := string([]byte{byte(level), byte(integ)}) + "\x00\x00\x00\x00\x00\x00\x01\x02" + "z"
		if level <= 15 && integ <= 7 {
			wantGet(t, s, api.Label{Level: level, Cats: 258, Integ: integ}, "z", api.OK)
		} else {
			wantGet(t, s, api.Label{}, "", api.ErrCode)
		}
	}
}

func TestGetNoCode(t *testing.T) {
	for _, s := range noCodes {
		for _, behind := range behinds {
			wantGet(t, s+behind, api.Label{}, "", api.ErrCode)
		}
	}
}

// P4.1: ranges

func TestPutRange(t *testing.T) {
	for _, low := range few() {
		for _, high := range few() {
			if liesUnder(low, high) {
				wantPutRange(t, low, high, bytesOf(low, high), api.OK)
			} else {
				wantPutRange(t, low, high, "", api.ErrCode)
			}
		}
	}
}

// TestPutRangeByOneNumberAlone: a range's labels may be one; above it by any number, the first one is refused.
func TestPutRangeByOneNumberAlone(t *testing.T) {
	a := api.Label{Level: 3, Cats: 6, Integ: 5}
	wantPutRange(t, a, a, bytesOf(a, a), api.OK)
	for _, b := range []api.Label{{Level: 4, Cats: 6, Integ: 5}, {Level: 3, Cats: 7, Integ: 5}, {Level: 3, Cats: 6, Integ: 4}} {
		wantPutRange(t, a, b, bytesOf(a, b), api.OK)
		wantPutRange(t, b, a, "", api.ErrCode)
	}
	for _, b := range []api.Label{{Level: 3, Cats: 8, Integ: 5}, {Level: 4, Cats: 6, Integ: 6}, {Level: 4, Cats: 2, Integ: 5}} {
		wantPutRange(t, a, b, "", api.ErrCode)
		wantPutRange(t, b, a, "", api.ErrCode)
	}
}

// TestPutRangeOfWhatIsNoLabel has twice the same, and the utmost ones, too: ErrLabel is named first.
func TestPutRangeOfWhatIsNoLabel(t *testing.T) {
	for _, a := range wrong {
		for _, b := range append(few(), wrong...) {
			wantPutRange(t, a, b, "", api.ErrLabel)
			wantPutRange(t, b, a, "", api.ErrLabel)
		}
	}
}

func TestGetRange(t *testing.T) {
	for _, low := range few() {
		for _, high := range few() {
			for _, behind := range behinds {
				s := bytesOf(low, high) + behind
				if liesUnder(low, high) {
					wantGetRange(t, s, low, high, behind, api.OK)
				} else {
					wantNoRange(t, s, api.ErrCode)
				}
			}
		}
	}
}

func TestGetRangeTooFew(t *testing.T) {
	for size := range 20 {
		wantNoRange(t, bytesOf(some1, some2)[:size], api.ErrMore)
		wantNoRange(t, bytesOf(some2, some1)[:size], api.ErrMore)
	}
}

// TestGetRangeFirst: of two errors the first label's is told, then the second one's.
func TestGetRangeFirst(t *testing.T) {
	right := bytesOf(some1)
	for _, no := range noCodes {
		for size := range 10 {
			wantNoRange(t, no[:size], api.ErrMore)
			wantNoRange(t, no+right[:size], api.ErrCode)
			wantNoRange(t, no+no[:size], api.ErrCode)
			wantNoRange(t, right+no[:size], api.ErrMore)
		}
		for _, behind := range behinds {
			wantNoRange(t, no+right+behind, api.ErrCode)
			wantNoRange(t, right+no+behind, api.ErrCode)
			wantNoRange(t, no+no+behind, api.ErrCode)
		}
	}
}

// P4.2

func TestPutList(t *testing.T) {
	wantPutList(t, nil, "", api.OK)
	wantPutList(t, []api.Label{}, "", api.OK)
	wantPutList(t, []api.Label{some1}, bytesOf(some1), api.OK)
	// Lists need neither rise nor fall, and may have one twice.
	wantPutList(t, []api.Label{top, bottom, some1, some1}, bytesOf(top, bottom, some1, some1), api.OK)
	wantPutList(t, many(), bytesOf(many()...), api.OK)
}

func TestPutListWithWhatIsNoLabel(t *testing.T) {
	for _, w := range wrong {
		for _, l := range [][]api.Label{{w}, {w, w}, {w, some1, top}, {bottom, w, top}, {bottom, top, w}, append(few(), w)} {
			wantPutList(t, l, "", api.ErrLabel)
		}
	}
}

func TestGetList(t *testing.T) {
	wantGetList(t, "", nil, api.OK)
	wantGetList(t, bytesOf(some1), []api.Label{some1}, api.OK)
	wantGetList(t, bytesOf(top, bottom, some1, some1), []api.Label{top, bottom, some1, some1}, api.OK)
	wantGetList(t, bytesOf(many()...), many(), api.OK)
}

func TestGetListTooFew(t *testing.T) {
	for count := range 4 {
		ahead := strings.Repeat(bytesOf(some1), count)
		for size := 1; size < 10; size++ {
			wantGetList(t, ahead+bytesOf(top)[:size], nil, api.ErrMore)
			wantGetList(t, ahead+noCodes[0][:size], nil, api.ErrMore)
		}
	}
}

// TestGetListFirst: what is no label's is told ahead of what is too short behind it.
func TestGetListFirst(t *testing.T) {
	right := bytesOf(some1)
	for _, no := range noCodes {
		for _, behind := range behinds {
			wantGetList(t, no+behind, nil, api.ErrCode)
			wantGetList(t, right+no+behind, nil, api.ErrCode)
			wantGetList(t, bytesOf(many()...)+no+behind, nil, api.ErrCode)
		}
	}
}

// P4.3

func TestLabelsAreOneToOne(t *testing.T) {
	seen := map[string]api.Label{}
	for _, a := range many() {
		s, e := labcode.Put(a)
		if e != api.OK || len(s) != 10 {
			t.Errorf("Put(%v): %d bytes, %d", a, len(s), e)
		}
		if other, ok := seen[s]; ok {
			t.Errorf("%v and %v are both %x", a, other, s)
		}
		seen[s] = a
		for _, behind := range behinds {
			wantGet(t, s+behind, a, behind, api.OK)
		}
	}
}

// TestEachCategoryHasAPlace: a set's bytes have the greatest one first, whatever category it is.
func TestEachCategoryHasAPlace(t *testing.T) {
	for i := range 64 {
		want := make([]byte, 10)
		want[9-i/8] = 1 << (i % 8)
		a := api.Label{Cats: 1 << i}
		wantPut(t, a, string(want), api.OK)
		wantGet(t, string(want), a, "", api.OK)
	}
}

// anyBytes are so many, of which the first two of each ten are mostly those of labels; for each other seed the sets grow, so that ranges are among them.
func anyBytes(seed, size int) string {
	l := make([]byte, size)
	x := uint32(seed)*2654435761 + 12345
	for i := range l {
		x = x*1664525 + 1013904223
		l[i] = byte(x >> 24)
		switch {
		case i%10 == 0:
			l[i] %= 17
		case i%10 == 1:
			l[i] %= 9
		case i > 10 && seed%2 == 0:
			l[i] |= l[i-10]
		}
	}
	return string(l)
}

// TestBytesAreOneToOne goes the other way: whatever is read is made of the bytes that it was read off.
func TestBytesAreOneToOne(t *testing.T) {
	one, two, all := 0, 0, 0
	for seed := range 20000 {
		s := anyBytes(seed, seed%41)
		if a, rest, e := labcode.Get(s); e == api.OK {
			one++
			if back, e := labcode.Put(a); e != api.OK || back+rest != s {
				t.Errorf("%x: %v, %x; back: %x, %d", s, a, rest, back, e)
			}
		}
		if low, high, rest, e := labcode.GetRange(s); e == api.OK {
			two++
			if back, e := labcode.PutRange(low, high); e != api.OK || back+rest != s {
				t.Errorf("%x: %v, %v, %x; back: %x, %d", s, low, high, rest, back, e)
			}
		}
		if l, e := labcode.GetList(s); e == api.OK {
			all++
			if back, e := labcode.PutList(l); e != api.OK || back != s || len(l)*10 != len(s) {
				t.Errorf("%x: %v; back: %x, %d", s, l, back, e)
			}
		}
	}
	if one < 1000 || two < 1000 || all < 1000 {
		t.Errorf("of the bytes tried, %d begin with a label, %d with a range, %d are lists: too few were held against anything", one, two, all)
	}
}

func TestRangesAreOneToOne(t *testing.T) {
	seen := map[string]bool{}
	for _, low := range few() {
		for _, high := range few() {
			s, e := labcode.PutRange(low, high)
			if e != api.OK {
				continue
			}
			if len(s) != 20 || seen[s] {
				t.Errorf("PutRange(%v, %v): %x; seen before: %t", low, high, s, seen[s])
			}
			seen[s] = true
			wantGetRange(t, s+"\x00z", low, high, "\x00z", api.OK)
		}
	}
}

func TestListsAreOneToOne(t *testing.T) {
	seen := map[string]bool{}
	l := few()
	for _, a := range l {
		for _, b := range l {
			for _, list := range [][]api.Label{{a, b}, {a, b, a}, {a, b, top, bottom}} {
				s, e := labcode.PutList(list)
				if e != api.OK || len(s) != 10*len(list) || seen[s] {
					t.Errorf("PutList(%v): %x, %d; seen before: %t", list, s, e, seen[s])
				}
				seen[s] = true
				wantGetList(t, s, list, api.OK)
			}
		}
	}
}

// R3

func TestWhatIsHandedInIsNotWrittenInto(t *testing.T) {
	for _, l := range [][]api.Label{{}, {some1, bottom, top}, {top, {Level: 16}, bottom}} {
		room := append(slices.Clone(l), api.Label{Level: 9}, api.Label{Integ: -4})
		want := slices.Clone(room)
		labcode.PutList(room[:len(l)])
		if !slices.Equal(room, want) {
			t.Errorf("PutList wrote: %v; was %v", room, want)
		}
	}
}

func TestAnswersAreNewMemory(t *testing.T) {
	s := bytesOf(some1, top, bottom)
	first, _ := labcode.GetList(s)
	for spare := first[:cap(first)]; len(spare) > 0; spare = spare[1:] {
		spare[0] = some2
	}
	wantGetList(t, s, []api.Label{some1, top, bottom}, api.OK)
	if !slices.Equal(first, []api.Label{some2, some2, some2}) {
		t.Errorf("a later call wrote into an answer: %v", first)
	}
}

// R4

func TestAnswersHangOnArgumentsAlone(t *testing.T) {
	for range 3 {
		wantPut(t, api.Label{Level: 16}, "", api.ErrLabel)
		wantPut(t, some1, bytesOf(some1), api.OK)
		wantGet(t, noCodes[0], api.Label{}, "", api.ErrCode)
		wantGet(t, bytesOf(some1)+"z", some1, "z", api.OK)
		wantPutRange(t, top, bottom, "", api.ErrCode)
		wantPutRange(t, bottom, top, bytesOf(bottom, top), api.OK)
		wantNoRange(t, bytesOf(top, bottom), api.ErrCode)
		wantGetRange(t, bytesOf(bottom, top), bottom, top, "", api.OK)
		wantPutList(t, []api.Label{some1, {Integ: 8}}, "", api.ErrLabel)
		wantPutList(t, []api.Label{some1}, bytesOf(some1), api.OK)
		wantGetList(t, bytesOf(some1)+"z", nil, api.ErrMore)
		wantGetList(t, bytesOf(some1), []api.Label{some1}, api.OK)
	}
}

// TestLongLists has more labels than any list of a call, and an error at the end alone.
func TestLongLists(t *testing.T) {
	l := slices.Repeat(many(), 100)
	s, e := labcode.PutList(l)
	if e != api.OK || len(s) != 10*len(l) {
		t.Fatalf("PutList: %d bytes, %d", len(s), e)
	}
	if back, e := labcode.GetList(s); !slices.Equal(back, l) || e != api.OK {
		t.Errorf("GetList: %d labels, %d", len(back), e)
	}
	if back, e := labcode.GetList(s + "\x00"); len(back) != 0 || e != api.ErrMore {
		t.Errorf("GetList with a byte behind: %d labels, %d", len(back), e)
	}
	if back, e := labcode.GetList(s + noCodes[0]); len(back) != 0 || e != api.ErrCode {
		t.Errorf("GetList with no label's bytes behind: %d labels, %d", len(back), e)
	}
	if s, e := labcode.PutList(append(l, api.Label{Level: 16})); s != "" || e != api.ErrLabel {
		t.Errorf("PutList with level 16 behind: %d bytes, %d", len(s), e)
	}
}
