package file_test

import (
	"bytes"
	"math"
	"strings"
	"testing"
	"unsafe"

	"plimsoll/api"
	"plimsoll/file"
)

// long is a text of n bytes, no two neighbours alike: a file, if they are not too many.
func long(n int) string {
	b := make([]byte, n)
	for i := range b {
		b[i] = byte(i*7 + i/256)
	}
	return string(b)
}

// someFiles are of all lengths that matter, and of all kinds of bytes: a text is bytes, whatever they are.
func someFiles() []string {
	return []string{"", "a", "ab", "abc", "abcd", "\x00", "\x00\x00\x00", "\xff\xfe", "é", "\xc3", "a\nb\r\x00c", "日本", long(200), long(255), long(256), long(257), long(500), long(998), long(999), long(1000), strings.Repeat("é", 500), strings.Repeat("\x00", 1000), strings.Repeat("\xff", 1000)}
}

// noFiles have too many bytes; some have no more than 1000 runes, and some no more than 1000 bytes modulo 2^10 or 2^16.
func noFiles() []string {
	return []string{long(1001), long(1002), long(1024), long(1030), long(2000), long(1 << 16), long(1<<16 + 4), strings.Repeat("é", 501), strings.Repeat("日", 1000), strings.Repeat("\x00", 1001), strings.Repeat("\xff", 1001)}
}

// someTexts are bytes to be put into a file: some fit nowhere.
func someTexts() []string {
	return append(someFiles(), noFiles()...)
}

// offsets of a file of n bytes: the first ones, the last ones, some between.
func offsets(n int) []int {
	var l []int
	for _, at := range []int{0, 1, 2, 3, 100, 255, 256, n / 2, n - 3, n - 2, n - 1, n} {
		if at >= 0 && at <= n {
			l = append(l, at)
		}
	}
	return l
}

// wrongNumbers are none of 0 to most: the nearest ones, those that are one modulo 2^8, 2^10, 2^16 or 2^32, the utmost.
func wrongNumbers(most int) []int {
	l := []int{-1, -2, -most - 1, -256, -1024, -1 << 16, -1 << 32, -1<<32 + most, math.MinInt, math.MinInt + 1, math.MinInt + most, math.MaxInt, math.MaxInt - 1, math.MaxInt - most}
	for _, n := range []int{most + 1, most + 2, 256, 256 + most, 1024, 1024 + most, 1 << 16, 1<<16 + most, 1 << 32, 1<<32 + most} {
		if n > most {
			l = append(l, n)
		}
	}
	return l
}

func wantFile(t *testing.T, what string, s string, e api.Errno, want string) {
	t.Helper()
	if s != want || e != api.OK {
		t.Fatalf("%s: %q, %d; want %q, OK", what, s, e, want)
	}
}

func wantError(t *testing.T, what string, s string, e api.Errno) {
	t.Helper()
	if s != "" || e != api.ErrFile {
		t.Fatalf("%s: %q, %d; want nothing, ErrFile", what, s, e)
	}
}

// wantMade holds what comes of it against a file's length.
func wantMade(t *testing.T, what string, s string, e api.Errno, want string) {
	t.Helper()
	if len(want) > 1000 {
		wantError(t, what+" of too much", s, e)
	} else {
		wantFile(t, what, s, e, want)
	}
}

// written is what comes of a write, byte by byte.
func written(s string, at int, t string) string {
	b := []byte(s)
	for i := range len(t) {
		if at+i < len(b) {
			b[at+i] = t[i]
		} else {
			b = append(b, t[i])
		}
	}
	return string(b)
}

// found is what a read finds, byte by byte.
func found(s string, at, n int) string {
	var b bytes.Buffer
	for i := range len(s) {
		if i >= at && i-at < n {
			b.WriteByte(s[i])
		}
	}
	return b.String()
}

// The chapter's example

func TestExample(t *testing.T) {
	s, e := file.Write("abcd", 3, "xy")
	wantFile(t, "abcd, 3, xy", s, e, "abcxy")
}

// P9.1

func TestWrite(t *testing.T) {
	for _, x := range []struct {
		s    string
		at   int
		t    string
		want string
	}{
		{"", 0, "", ""}, {"", 0, "a", "a"}, {"abcd", 0, "", "abcd"}, {"abcd", 4, "", "abcd"}, {"abcd", 0, "x", "xbcd"}, {"abcd", 1, "xy", "axyd"}, {"abcd", 2, "xy", "abxy"}, {"abcd", 3, "xy", "abcxy"}, {"abcd", 4, "xy", "abcdxy"}, {"abcd", 0, "vwxyz", "vwxyz"}, {"abcd", 0, "\x00\x00", "\x00\x00cd"}, {"é", 1, "\xaa", "ê"},
	} {
		s, e := file.Write(x.s, x.at, x.t)
		wantFile(t, "Write", s, e, x.want)
	}
	for _, s := range someFiles() {
		for _, at := range offsets(len(s)) {
			for _, x := range someTexts() {
				made, e := file.Write(s, at, x)
				wantMade(t, "Write", made, e, written(s, at, x))
			}
		}
	}
}

func TestWriteUpToAFullFile(t *testing.T) {
	for at := range 1001 {
		s := long(at)
		made, e := file.Write(s, at, strings.Repeat("x", 1000-at))
		wantFile(t, "Write up to 1000 bytes", made, e, s+strings.Repeat("x", 1000-at))
		made, e = file.Write(s, at, strings.Repeat("x", 1001-at))
		wantError(t, "Write up to 1001 bytes", made, e)
		made, e = file.Write(long(1000), at, strings.Repeat("x", 1000-at))
		wantFile(t, "Write to the end of 1000 bytes", made, e, s+strings.Repeat("x", 1000-at))
		made, e = file.Write(long(1000), at, strings.Repeat("x", 1001-at))
		wantError(t, "Write past the end of 1000 bytes", made, e)
	}
}

func TestWriteWrong(t *testing.T) {
	for _, s := range someFiles() {
		for _, at := range wrongNumbers(len(s)) {
			for _, x := range []string{"", "x", "xyz", long(1000), long(1001)} {
				made, e := file.Write(s, at, x)
				wantError(t, "Write at no offset", made, e)
			}
		}
	}
	for _, s := range noFiles() {
		for _, at := range append([]int{0, 1, 999, 1000, 1001, len(s)}, wrongNumbers(len(s))...) {
			for _, x := range []string{"", "x", long(1000)} {
				made, e := file.Write(s, at, x)
				wantError(t, "Write into no file", made, e)
			}
		}
	}
}

func TestRead(t *testing.T) {
	for _, x := range []struct {
		s     string
		at, n int
		want  string
	}{
		{"", 0, 0, ""}, {"", 0, 1, ""}, {"abcd", 0, 0, ""}, {"abcd", 0, 4, "abcd"}, {"abcd", 0, 5, "abcd"}, {"abcd", 1, 2, "bc"}, {"abcd", 1, 3, "bcd"}, {"abcd", 1, 4, "bcd"}, {"abcd", 3, 1, "d"}, {"abcd", 4, 0, ""}, {"abcd", 4, 1, ""}, {"abcd", 4, math.MaxInt, ""}, {"abcd", 1, math.MaxInt, "bcd"}, {"é", 1, 1, "\xa9"},
	} {
		s, e := file.Read(x.s, x.at, x.n)
		wantFile(t, "Read", s, e, x.want)
	}
	for _, s := range someFiles() {
		for _, at := range offsets(len(s)) {
			for _, n := range append(offsets(len(s)), len(s)-at, len(s)+1, 1000, 1001, 1<<16, 1<<32, 1<<32+1, math.MaxInt-1, math.MaxInt) {
				x, e := file.Read(s, at, n)
				wantFile(t, "Read", x, e, found(s, at, n))
			}
		}
	}
}

func TestReadWrong(t *testing.T) {
	for _, s := range someFiles() {
		for _, at := range wrongNumbers(len(s)) {
			for _, n := range []int{0, 1, len(s), 1000, math.MaxInt, -1, math.MinInt} {
				x, e := file.Read(s, at, n)
				wantError(t, "Read at no offset", x, e)
			}
		}
		for _, at := range offsets(len(s)) {
			for _, n := range []int{-1, -2, -at, -len(s), -256, -1 << 16, -1 << 32, -1<<32 + 1, math.MinInt + 1, math.MinInt} {
				if n < 0 {
					x, e := file.Read(s, at, n)
					wantError(t, "Read of less than nothing", x, e)
				}
			}
		}
	}
	for _, s := range noFiles() {
		for _, at := range []int{0, 1, 999, 1000, len(s), -1, len(s) + 1} {
			for _, n := range []int{0, 1, 1000, math.MaxInt, -1} {
				x, e := file.Read(s, at, n)
				wantError(t, "Read of no file", x, e)
			}
		}
	}
}

// P9.2

func TestCut(t *testing.T) {
	for n, want := range []string{"", "a", "ab", "abc", "abc\x00", "abc\x00\x00"} {
		s, e := file.Cut("abc", n)
		wantFile(t, "Cut", s, e, want)
	}
	zeros := strings.Repeat("\x00", 1000)
	for _, s := range someFiles() {
		for n := range 1001 {
			made, e := file.Cut(s, n)
			wantFile(t, "Cut", made, e, (s + zeros)[:n])
		}
	}
}

func TestCutWrong(t *testing.T) {
	for _, s := range someFiles() {
		for _, n := range wrongNumbers(1000) {
			made, e := file.Cut(s, n)
			wantError(t, "Cut to no length", made, e)
		}
	}
	for _, s := range noFiles() {
		for _, n := range []int{0, 1, 999, 1000, 1001, len(s), -1} {
			made, e := file.Cut(s, n)
			wantError(t, "Cut of no file", made, e)
		}
	}
}

func TestAppend(t *testing.T) {
	s, e := file.Append("ab", "cd")
	wantFile(t, "Append", s, e, "abcd")
	for _, s := range someTexts() {
		for _, x := range someTexts() {
			made, e := file.Append(s, x)
			wantMade(t, "Append", made, e, s+x)
			other, e2 := file.Write(s, len(s), x)
			if made != other || e != e2 {
				t.Fatalf("Append: %q, %d; Write at the end: %q, %d", made, e, other, e2)
			}
		}
	}
}

func TestSplice(t *testing.T) {
	for _, x := range []struct {
		s     string
		at, n int
		t     string
		want  string
	}{
		{"", 0, 0, "", ""}, {"", 0, 0, "ab", "ab"}, {"abcd", 0, 0, "", "abcd"}, {"abcd", 0, 4, "", ""}, {"abcd", 1, 2, "x", "axd"}, {"abcd", 1, 2, "xyz", "axyzd"}, {"abcd", 1, 0, "x", "axbcd"}, {"abcd", 1, 3, "x", "ax"}, {"abcd", 3, 1, "", "abc"}, {"abcd", 4, 0, "e", "abcde"}, {"abcd", 0, 1, "xy", "xybcd"},
	} {
		s, e := file.Splice(x.s, x.at, x.n, x.t)
		wantFile(t, "Splice", s, e, x.want)
	}
	for _, s := range someFiles() {
		for _, at := range offsets(len(s)) {
			for _, n := range offsets(len(s) - at) {
				for _, x := range someTexts() {
					made, e := file.Splice(s, at, n, x)
					want := append([]byte(x), s[at+n:]...)
					wantMade(t, "Splice", made, e, s[:at]+string(want))
				}
			}
		}
	}
}

func TestSpliceUpToAFullFile(t *testing.T) {
	for n := range 1001 {
		s, x := long(1000), strings.Repeat("x", n)
		made, e := file.Splice(s, 1000-n, n, x)
		wantFile(t, "Splice of the last bytes", made, e, s[:1000-n]+x)
		made, e = file.Splice(s, 0, n, x)
		wantFile(t, "Splice of the first bytes", made, e, x+s[n:])
		made, e = file.Splice(s, 0, n, x+"x")
		wantError(t, "Splice up to 1001 bytes", made, e)
		made, e = file.Splice(s, 1000-n, n, x+"x")
		wantError(t, "Splice up to 1001 bytes at the end", made, e)
	}
}

func TestSpliceWrong(t *testing.T) {
	for _, s := range someFiles() {
		for _, at := range wrongNumbers(len(s)) {
			for _, n := range []int{0, 1, len(s), -1, -at, len(s) - at, math.MaxInt, math.MinInt} {
				made, e := file.Splice(s, at, n, "x")
				wantError(t, "Splice at no offset", made, e)
			}
		}
		for _, at := range offsets(len(s)) {
			for _, n := range wrongNumbers(len(s) - at) {
				for _, x := range []string{"", "x", long(1001)} {
					made, e := file.Splice(s, at, n, x)
					wantError(t, "Splice of more than is there", made, e)
				}
			}
		}
	}
	for _, s := range noFiles() {
		for _, at := range []int{0, 1, 1000, len(s), -1, len(s) + 1} {
			for _, n := range []int{0, 1, 1000, len(s) - at, len(s), -1} {
				made, e := file.Splice(s, at, n, "")
				wantError(t, "Splice of no file", made, e)
			}
		}
	}
}

// P9.3

func TestWhatIsWrittenIsReadThere(t *testing.T) {
	for _, s := range someFiles() {
		for _, at := range offsets(len(s)) {
			for _, x := range someFiles() {
				made, e := file.Write(s, at, x)
				if e != api.OK {
					continue
				}
				if len(made) != max(len(s), at+len(x)) {
					t.Fatalf("Write made %d bytes of %d with %d at %d", len(made), len(s), len(x), at)
				}
				got, e := file.Read(made, at, len(x))
				wantFile(t, "Read of what was written", got, e, x)
				ahead, e := file.Read(made, 0, at)
				wantFile(t, "Read of what is ahead of it", ahead, e, s[:at])
				behind, e := file.Read(made, at+len(x), 1000)
				wantFile(t, "Read of what is behind it", behind, e, s[min(at+len(x), len(s)):])
			}
		}
	}
}

func TestSpliceAndBack(t *testing.T) {
	for _, s := range someFiles() {
		for _, at := range offsets(len(s)) {
			for _, n := range offsets(len(s) - at) {
				was, e := file.Read(s, at, n)
				wantFile(t, "Read of what is to go", was, e, s[at:at+n])
				made, e := file.Splice(s, at, n, "xyz")
				if e != api.OK {
					continue
				}
				back, e := file.Splice(made, at, 3, was)
				wantFile(t, "Splice back", back, e, s)
			}
		}
	}
}

// R2, R3, R4

// sharing tells whether two texts lie in one memory; short ones may, since the language has each byte but once.
func sharing(a, b string) bool {
	if len(a) < 2 || len(b) < 2 {
		return false
	}
	a0, b0 := uintptr(unsafe.Pointer(unsafe.StringData(a))), uintptr(unsafe.Pointer(unsafe.StringData(b)))
	return a0 < b0+uintptr(len(b)) && b0 < a0+uintptr(len(a))
}

func TestAnswersAreNewMemory(t *testing.T) {
	for _, s := range someFiles() {
		n := len(s)
		x := strings.Clone("xy")
		var all []string
		keep := func(made string, e api.Errno) {
			if e == api.OK {
				all = append(all, made)
			}
		}
		keep(file.Write(s, 0, ""))
		keep(file.Write(s, n, ""))
		keep(file.Write("", 0, s))
		keep(file.Write(x, 0, x))
		keep(file.Read(s, 0, n))
		keep(file.Read(s, n/2, n))
		keep(file.Cut(s, n))
		keep(file.Cut(s, n/2))
		keep(file.Append(s, ""))
		keep(file.Append("", s))
		keep(file.Append("", x))
		keep(file.Splice(s, 0, 0, ""))
		keep(file.Splice(s, 0, n, s))
		keep(file.Splice(s, 0, n/2, ""))
		for i, made := range all {
			if sharing(made, s) || sharing(made, x) {
				t.Fatalf("answer %d of %d bytes lies in what was handed in", i, n)
			}
		}
	}
}

func TestSameAgain(t *testing.T) {
	s, x := long(500), long(300)
	first, e := file.Write(s, 250, x)
	wantFile(t, "Write", first, e, written(s, 250, x))
	for range 3 {
		made, e := file.Write(s, 250, long(900))
		wantError(t, "Write of too much", made, e)
		made, e = file.Cut("", 1000)
		wantFile(t, "Cut of nothing behind others", made, e, strings.Repeat("\x00", 1000))
		made, e = file.Write(s, 250, x)
		wantFile(t, "Write again", made, e, first)
	}
}
