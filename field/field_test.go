package field_test

import (
	"math"
	"math/big"
	"slices"
	"strings"
	"testing"

	"plimsoll/api"
	"plimsoll/field"
)

var widths = []int{1, 2, 4, 8}

// noWidths are the nearest ones to widths, those that are one modulo 8, 256 or 2^32, the utmost.
var noWidths = []int{
	0, 3, 5, 6, 7, 9, 10, 12, 15, 16, 17, 24, 32, 64, 128, 255, 256, 257, 258, 260, 264,
	-1, -2, -4, -8, -255, 1<<32 + 1, 1<<32 + 8, -1<<32 + 2, math.MinInt, math.MinInt + 1, math.MaxInt,
}

// behinds are what may stand behind, some of it like numbers and texts itself.
var behinds = []string{"", "\x00", "\xff", "yz", "\x01a", "\x00\x00\x00\x00\x00\x00\x00\x00", strings.Repeat("\xc9", 300)}

// some numbers: each power of two, what lies beside it, and a few whose bytes all differ.
func some() []uint64 {
	l := []uint64{0x0123456789abcdef, 0xfedcba9876543210, 0x01020304, 0xfffefdfc, 300, 258, 0xff00, 0xff00ff00, 0x8000000000000001}
	for i := range 64 {
		l = append(l, 1<<i-1, 1<<i, 1<<i+1)
	}
	l = append(l, math.MaxUint64-1, math.MaxUint64)
	slices.Sort(l)
	return slices.Compact(l)
}

// isOf tells by numbers without bound whether n is less than 2^(8 width).
func isOf(width int, n uint64) bool {
	bound := new(big.Int).Lsh(big.NewInt(1), uint(8*width))
	return new(big.Int).SetUint64(n).Cmp(bound) < 0
}

// bytesOf takes the digits to the base of 256 off the end, another way than the program's.
func bytesOf(width int, n uint64) string {
	l := make([]byte, width)
	for i := width - 1; i >= 0; i-- {
		l[i] = byte(n % 256)
		n /= 256
	}
	return string(l)
}

// textOf has bytes that differ, noughts and such as are no UTF-8 among them.
func textOf(size int) string {
	l := make([]byte, size)
	for i := range l {
		l[i] = byte(i*37 + size)
	}
	return string(l)
}

func wantPut(t *testing.T, width int, n uint64, want string, wantE api.Errno) {
	t.Helper()
	if s, e := field.Put(width, n); s != want || e != wantE {
		t.Errorf("Put(%d, %d): %x, %d; want %x, %d", width, n, s, e, want, wantE)
	}
}

func wantGet(t *testing.T, width int, s string, want uint64, wantRest string, wantE api.Errno) {
	t.Helper()
	if n, rest, e := field.Get(width, s); n != want || rest != wantRest || e != wantE {
		t.Errorf("Get(%d, %x): %d, %x, %d; want %d, %x, %d", width, s, n, rest, e, want, wantRest, wantE)
	}
}

func wantGetText(t *testing.T, s string, want string, wantRest string, wantE api.Errno) {
	t.Helper()
	if x, rest, e := field.GetText(s); x != want || rest != wantRest || e != wantE {
		t.Errorf("GetText(%x): %x, %x, %d; want %x, %x, %d", s, x, rest, e, want, wantRest, wantE)
	}
}

func wantPack(t *testing.T, widths []int, l []uint64, want string, wantE api.Errno) {
	t.Helper()
	if s, e := field.Pack(widths, l); s != want || e != wantE {
		t.Errorf("Pack(%d, %d): %x, %d; want %x, %d", widths, l, s, e, want, wantE)
	}
}

func wantUnpack(t *testing.T, widths []int, s string, want []uint64, wantRest string, wantE api.Errno) {
	t.Helper()
	if l, rest, e := field.Unpack(widths, s); !slices.Equal(l, want) || rest != wantRest || e != wantE {
		t.Errorf("Unpack(%d, %x): %d, %x, %d; want %d, %x, %d", widths, s, l, rest, e, want, wantRest, wantE)
	}
}

// The chapter's examples

func TestExamples(t *testing.T) {
	wantPut(t, 2, 300, "\x01\x2c", api.OK)
	wantPut(t, 4, 5, "\x00\x00\x00\x05", api.OK)
	wantGet(t, 2, "\x01\x2c", 300, "", api.OK)
	wantGet(t, 4, "\x00\x00\x00\x05", 5, "", api.OK)
}

// P3.1: numbers

func TestPut(t *testing.T) {
	for _, width := range widths {
		for _, n := range some() {
			if isOf(width, n) {
				wantPut(t, width, n, bytesOf(width, n), api.OK)
			} else {
				wantPut(t, width, n, "", api.ErrField)
			}
		}
	}
}

// TestPutNoWidth has numbers that are too great for any width of one to seven bytes too: ErrArg is named first.
func TestPutNoWidth(t *testing.T) {
	for _, width := range noWidths {
		for _, n := range []uint64{0, 1, 255, 256, 1 << 24, 1 << 56, math.MaxUint64} {
			wantPut(t, width, n, "", api.ErrArg)
		}
	}
}

func TestGet(t *testing.T) {
	for _, width := range widths {
		for _, n := range some() {
			if !isOf(width, n) {
				continue
			}
			for _, behind := range behinds {
				wantGet(t, width, bytesOf(width, n)+behind, n, behind, api.OK)
			}
		}
	}
}

func TestGetTooFew(t *testing.T) {
	for _, width := range widths {
		for size := range width {
			for _, s := range []string{strings.Repeat("\x00", size), strings.Repeat("\xff", size), textOf(size)} {
				wantGet(t, width, s, 0, "", api.ErrMore)
			}
		}
	}
}

// TestGetNoWidth has too few bytes too: ErrArg is named first.
func TestGetNoWidth(t *testing.T) {
	for _, width := range noWidths {
		for _, s := range []string{"", "a", "abc", strings.Repeat("\xff", 300)} {
			wantGet(t, width, s, 0, "", api.ErrArg)
		}
	}
}

// P3.1: texts

func TestPutText(t *testing.T) {
	for size := range 600 {
		x := textOf(size)
		want, wantE := "", api.ErrField
		if size <= 200 {
			want, wantE = string([]byte{byte(size)})+x, api.OK
		}
		if s, e := field.PutText(x); s != want || e != wantE {
			t.Errorf("PutText of %d bytes: %x, %d; want %x, %d", size, s, e, want, wantE)
		}
	}
	for _, size := range []int{1 << 16, 1<<16 + 1, 1 << 20} {
		if s, e := field.PutText(strings.Repeat("a", size)); s != "" || e != api.ErrField {
			t.Errorf("PutText of %d bytes: %d bytes, %d", size, len(s), e)
		}
	}
}

func TestGetText(t *testing.T) {
	for size := range 201 {
		x := textOf(size)
		for _, behind := range behinds {
			wantGetText(t, string([]byte{byte(size)})+x+behind, x, behind, api.OK)
		}
	}
}

func TestGetTextTooFew(t *testing.T) {
	wantGetText(t, "", "", "", api.ErrMore)
	for size := 1; size <= 200; size++ {
		first := string([]byte{byte(size)})
		for _, there := range []int{0, 1, size / 2, size - 1} {
			if there < size {
				wantGetText(t, first+textOf(there), "", "", api.ErrMore)
			}
		}
	}
}

// TestGetTextTooGreat has too few bytes behind, as many as are asked, and more: ErrField is told first.
func TestGetTextTooGreat(t *testing.T) {
	for size := 201; size <= 255; size++ {
		first := string([]byte{byte(size)})
		for _, there := range []int{0, 1, 200, size - 1, size, size + 1, 400} {
			wantGetText(t, first+textOf(there), "", "", api.ErrField)
		}
	}
}

// P3.2

func TestPack(t *testing.T) {
	wantPack(t, nil, nil, "", api.OK)
	wantPack(t, []int{}, nil, "", api.OK)
	wantPack(t, nil, []uint64{}, "", api.OK)
	wantPack(t, []int{1, 2}, []uint64{7, 300}, "\x07\x01\x2c", api.OK)
	wantPack(t, []int{2, 1}, []uint64{7, 200}, "\x00\x07\xc8", api.OK)
	wantPack(t, []int{8, 4, 2, 1}, []uint64{1<<64 - 1, 5, 0, 255}, "\xff\xff\xff\xff\xff\xff\xff\xff\x00\x00\x00\x05\x00\x00\xff", api.OK)
}

func TestPackNotAsMany(t *testing.T) {
	wantPack(t, []int{1}, nil, "", api.ErrArg)
	wantPack(t, nil, []uint64{0}, "", api.ErrArg)
	wantPack(t, []int{1, 2}, []uint64{7}, "", api.ErrArg)
	wantPack(t, []int{1}, []uint64{7, 8}, "", api.ErrArg)
	// What Put would refuse stands ahead here, but is not come to.
	wantPack(t, []int{1, 1}, []uint64{256}, "", api.ErrArg)
	wantPack(t, []int{1}, []uint64{256, 7}, "", api.ErrArg)
}

// TestPackFirst: of two numbers that Put refuses, the first one's error is told.
func TestPackFirst(t *testing.T) {
	wantPack(t, []int{3}, []uint64{1}, "", api.ErrArg)
	wantPack(t, []int{2}, []uint64{1 << 16}, "", api.ErrField)
	wantPack(t, []int{1, 3}, []uint64{256, 1}, "", api.ErrField)
	wantPack(t, []int{3, 1}, []uint64{1, 256}, "", api.ErrArg)
	wantPack(t, []int{1, 4, 3}, []uint64{1, 1 << 32, 1}, "", api.ErrField)
	wantPack(t, []int{1, 0, 4}, []uint64{1, 0, 1 << 32}, "", api.ErrArg)
	wantPack(t, []int{8, 2, 1}, []uint64{1, 2, 256}, "", api.ErrField)
	wantPack(t, []int{8, 2, -1}, []uint64{1, 2, 255}, "", api.ErrArg)
}

func TestUnpack(t *testing.T) {
	for _, behind := range behinds {
		wantUnpack(t, nil, behind, nil, behind, api.OK)
		wantUnpack(t, []int{}, behind, nil, behind, api.OK)
		wantUnpack(t, []int{1, 2}, "\x07\x01\x2c"+behind, []uint64{7, 300}, behind, api.OK)
		wantUnpack(t, []int{2, 1}, "\x07\x01\x2c"+behind, []uint64{1793, 44}, behind, api.OK)
		wantUnpack(t, []int{1, 8, 1}, "\x00\xff\xff\xff\xff\xff\xff\xff\xfe\x09"+behind, []uint64{0, 1<<64 - 2, 9}, behind, api.OK)
	}
}

// TestUnpackFirst: of two numbers that Get refuses, the first one's error is told.
func TestUnpackFirst(t *testing.T) {
	wantUnpack(t, []int{1}, "", nil, "", api.ErrMore)
	wantUnpack(t, []int{3}, "abc", nil, "", api.ErrArg)
	wantUnpack(t, []int{1, 3}, "", nil, "", api.ErrMore)
	wantUnpack(t, []int{3, 1}, "", nil, "", api.ErrArg)
	wantUnpack(t, []int{1, 3}, "a", nil, "", api.ErrArg)
	wantUnpack(t, []int{1, 2}, "ab", nil, "", api.ErrMore)
	wantUnpack(t, []int{1, 2, 5}, "ab", nil, "", api.ErrMore)
	wantUnpack(t, []int{1, 2, 5}, "abc", nil, "", api.ErrArg)
	wantUnpack(t, []int{4, 4}, "abcdefg", nil, "", api.ErrMore)
	wantUnpack(t, []int{1, 1, 1}, "ab", nil, "", api.ErrMore)
	wantUnpack(t, []int{8, math.MinInt}, "abcdefgh", nil, "", api.ErrArg)
}

// TestPackIsPut goes through all lists of up to three widths, right or not, and holds Pack and Unpack against Put and Get one by one.
func TestPackIsPut(t *testing.T) {
	numbers := []uint64{0, 255, 256, 1 << 32, math.MaxUint64}
	for _, ws := range lists(3, []int{1, 2, 4, 8, 3, -1}) {
		for i := range numbers {
			l := make([]uint64, len(ws))
			for j := range l {
				l[j] = numbers[(i+2*j)%len(numbers)]
			}
			s, e := byPut(ws, l)
			wantPack(t, ws, l, s, e)
		}
		for size := range 27 {
			s := textOf(size)
			l, rest, e := byGet(ws, s)
			wantUnpack(t, ws, s, l, rest, e)
		}
	}
}

// lists are all lists of at most so many of the items.
func lists(most int, items []int) [][]int {
	all := [][]int{nil}
	for from := 0; most > 0; most-- {
		upTo := len(all)
		for ; from < upTo; from++ {
			for _, item := range items {
				all = append(all, append(slices.Clone(all[from]), item))
			}
		}
	}
	return all
}

func byPut(ws []int, l []uint64) (string, api.Errno) {
	all := ""
	for i, width := range ws {
		s, e := field.Put(width, l[i])
		if e != api.OK {
			return "", e
		}
		all += s
	}
	return all, api.OK
}

func byGet(ws []int, s string) ([]uint64, string, api.Errno) {
	var l []uint64
	for _, width := range ws {
		n, rest, e := field.Get(width, s)
		if e != api.OK {
			return nil, "", e
		}
		l, s = append(l, n), rest
	}
	return l, s, api.OK
}

// P3.3

func TestNumbersAreOneToOne(t *testing.T) {
	for _, width := range widths {
		seen := map[string]uint64{}
		for _, n := range some() {
			s, e := field.Put(width, n)
			if e != api.OK {
				continue
			}
			if other, ok := seen[s]; ok {
				t.Errorf("width %d: %d and %d are both %x", width, n, other, s)
			}
			seen[s] = n
			for _, behind := range behinds {
				wantGet(t, width, s+behind, n, behind, api.OK)
			}
		}
	}
}

// TestBytesAreOneToOne goes the other way: any bytes of a width are those of the number that they are read as.
func TestBytesAreOneToOne(t *testing.T) {
	for _, width := range widths {
		for i := range 1 << 16 {
			s := strings.Repeat(string([]byte{byte(i >> 8), byte(i), byte(i >> 4)}), 3)[:width]
			for _, behind := range behinds[:4] {
				n, rest, e := field.Get(width, s+behind)
				back, e2 := field.Put(width, n)
				if e != api.OK || e2 != api.OK || rest != behind || back != s {
					t.Fatalf("width %d: %x with %x behind: %d, %x, %d; back: %x, %d", width, s, behind, n, rest, e, back, e2)
				}
			}
		}
	}
}

func TestTextsAreOneToOne(t *testing.T) {
	texts := []string{"", "\x00", "\x00\x00", "\x01", "\x01\x01", "\xff", "ä", "\xc3"}
	for size := range 201 {
		texts = append(texts, textOf(size), strings.Repeat("\xc8", size))
	}
	slices.Sort(texts)
	seen := map[string]bool{}
	for _, x := range slices.Compact(texts) {
		s, e := field.PutText(x)
		if e != api.OK || seen[s] {
			t.Errorf("PutText(%x): %x, %d; seen before: %t", x, s, e, seen[s])
		}
		seen[s] = true
		for _, behind := range behinds {
			wantGetText(t, s+behind, x, behind, api.OK)
		}
	}
}

// TestTextsBytesAreOneToOne: whatever a text is read off is its own bytes, and what is behind.
func TestTextsBytesAreOneToOne(t *testing.T) {
	for first := range 256 {
		for _, size := range []int{0, 1, 5, 199, 200, 201, 255, 300} {
			s := string([]byte{byte(first)}) + textOf(size)
			x, rest, e := field.GetText(s)
			if e != api.OK {
				continue
			}
			if back, e2 := field.PutText(x); e2 != api.OK || back+rest != s || len(x) != first {
				t.Errorf("%x: %x, %x; back: %x, %d", s, x, rest, back, e2)
			}
		}
	}
}

func TestListsAreOneToOne(t *testing.T) {
	l := some()
	ws := make([]int, len(l))
	for i, n := range l {
		ws[i] = 8
		for _, width := range widths {
			if width < ws[i] && isOf(width, n) && (i%3 != 0) {
				ws[i] = width
			}
		}
	}
	s, e := field.Pack(ws, l)
	if e != api.OK {
		t.Fatalf("Pack: %d", e)
	}
	for _, behind := range behinds {
		wantUnpack(t, ws, s+behind, l, behind, api.OK)
	}
}

// R3

func TestNothingHandedInIsWritten(t *testing.T) {
	ws := []int{1, 2, 4, 8, 77, 78}
	l := []uint64{1, 2, 3, 4, 99, 98}
	for _, size := range []int{0, 1, 4} {
		s, e := field.Pack(ws[:size], l[:size])
		if e != api.OK {
			t.Errorf("Pack: %d", e)
		}
		if _, _, e := field.Unpack(ws[:size], s+"yz"); e != api.OK {
			t.Errorf("Unpack: %d", e)
		}
	}
	field.Pack(ws, l)
	field.Unpack(ws, "abc")
	if !slices.Equal(ws, []int{1, 2, 4, 8, 77, 78}) || !slices.Equal(l, []uint64{1, 2, 3, 4, 99, 98}) {
		t.Errorf("written into: %d, %d", ws, l)
	}
}

func TestAnswersAreNewMemory(t *testing.T) {
	ws := []int{1, 1, 2}
	first, _, _ := field.Unpack(ws, "\x01\x02\x00\x03")
	for spare := first[:cap(first)]; len(spare) > 0; spare = spare[1:] {
		spare[0] = 42
	}
	ws[0] = 2
	second, rest, e := field.Unpack(ws, "\x01\x02\x04\x00\x03")
	if !slices.Equal(second, []uint64{258, 4, 3}) || rest != "" || e != api.OK {
		t.Errorf("Unpack: %d, %x, %d", second, rest, e)
	}
	if !slices.Equal(first, []uint64{42, 42, 42}) {
		t.Errorf("a later call wrote into an answer: %d", first)
	}
}

// R4

func TestAnswersHangOnArgumentsAlone(t *testing.T) {
	for range 3 {
		wantPut(t, 3, 1, "", api.ErrArg)
		wantPut(t, 2, 300, "\x01\x2c", api.OK)
		wantGet(t, 2, "a", 0, "", api.ErrMore)
		wantGet(t, 1, "ab", 97, "b", api.OK)
		wantGetText(t, "\xc9", "", "", api.ErrField)
		wantGetText(t, "\x01ab", "a", "b", api.OK)
		wantPack(t, []int{1}, nil, "", api.ErrArg)
		wantPack(t, []int{1}, []uint64{1}, "\x01", api.OK)
		wantUnpack(t, []int{2}, "a", nil, "", api.ErrMore)
		wantUnpack(t, []int{1}, "ab", []uint64{97}, "b", api.OK)
	}
}

// TestMany has more numbers than any list of a call, and takes each byte once.
func TestMany(t *testing.T) {
	const many = 1 << 17
	ws, l := make([]int, many), make([]uint64, many)
	for i := range many {
		ws[i], l[i] = widths[i%4], uint64(i%251)
	}
	s, e := field.Pack(ws, l)
	if e != api.OK || len(s) != many/4*15 {
		t.Fatalf("Pack: %d bytes, %d", len(s), e)
	}
	back, rest, e := field.Unpack(ws, s+"z")
	if !slices.Equal(back, l) || rest != "z" || e != api.OK {
		t.Errorf("Unpack: %d numbers, %x, %d", len(back), rest, e)
	}
}
