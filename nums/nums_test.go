package nums_test

import (
	"encoding/binary"
	"math"
	"strings"
	"testing"
	"unsafe"

	"postrider/api"
	"postrider/nums"
)

// edges are whole numbers at and beside the ends of all widths, of numbers, and of int.
func edges() []int {
	l := []int{math.MinInt, math.MinInt + 1, -256, -255, -2, -1, math.MaxInt - 1, math.MaxInt}
	for bit := range 63 {
		for d := -2; d <= 2; d++ {
			l = append(l, 1<<bit+d)
		}
	}
	return append(l, 0, 258, 515, 66051, 123456789, api.MaxNum)
}

// badWidths are those below 1 and above 8.
func badWidths() []int { return []int{math.MinInt, -8, -1, 0, 9, 10, 64, 256, 257, math.MaxInt} }

// plain are n's bytes in a width, worked out by the library.
func plain(n int, width int) string {
	b := binary.BigEndian.AppendUint64(nil, uint64(n))
	return string(b[8-width:])
}

// room tells whether n is below 256 multiplied width times.
func room(n int, width int) bool {
	for ; width > 0 && n > 0; width-- {
		n /= 256
	}
	return n == 0
}

func wantBytes(t *testing.T, n int, width int, want string, wantErr api.Errno) {
	t.Helper()
	if s, e := nums.Bytes(n, width); s != want || e != wantErr {
		t.Errorf("Bytes(%d, %d) = %x, %d; want %x, %d", n, width, s, e, want, wantErr)
	}
}

func wantTake(t *testing.T, s string, at int, width int, want int, wantErr api.Errno) {
	t.Helper()
	if n, e := nums.Take(s, at, width); n != want || e != wantErr {
		t.Errorf("Take(%x, %d, %d) = %d, %d; want %d, %d", s, at, width, n, e, want, wantErr)
	}
}

func wantCut(t *testing.T, s string, at int, n int, want string, wantErr api.Errno) {
	t.Helper()
	if got, e := nums.Cut(s, at, n); got != want || e != wantErr {
		t.Errorf("Cut(%q, %d, %d) = %q, %d; want %q, %d", s, at, n, got, e, want, wantErr)
	}
}

func wantRest(t *testing.T, s string, at int, want string, wantErr api.Errno) {
	t.Helper()
	if got, e := nums.Rest(s, at); got != want || e != wantErr {
		t.Errorf("Rest(%q, %d) = %q, %d; want %q, %d", s, at, got, e, want, wantErr)
	}
}

// P1.1

func TestRight(t *testing.T) {
	for _, n := range edges() {
		want := n >= 0 && n < 281474976710656
		if got := nums.Right(n); got != want {
			t.Errorf("Right(%d) = %v", n, got)
		}
	}
}

func TestBytesOfNumbers(t *testing.T) {
	wantBytes(t, 0, 1, "\x00", api.OK)
	wantBytes(t, 1, 1, "\x01", api.OK)
	wantBytes(t, 255, 1, "\xff", api.OK)
	wantBytes(t, 256, 2, "\x01\x00", api.OK)
	wantBytes(t, 258, 3, "\x00\x01\x02", api.OK)
	wantBytes(t, 65535, 2, "\xff\xff", api.OK)
	wantBytes(t, 0, 8, "\x00\x00\x00\x00\x00\x00\x00\x00", api.OK)
	wantBytes(t, api.MaxNum, 6, "\xff\xff\xff\xff\xff\xff", api.OK)
	wantBytes(t, api.MaxNum, 7, "\x00\xff\xff\xff\xff\xff\xff", api.OK)
	wantBytes(t, api.MaxNum, 8, "\x00\x00\xff\xff\xff\xff\xff\xff", api.OK)
}

func TestBytesInAllWidths(t *testing.T) {
	for _, n := range edges() {
		for width := 1; width <= 8; width++ {
			if nums.Right(n) && room(n, width) {
				wantBytes(t, n, width, plain(n, width), api.OK)
			} else {
				wantBytes(t, n, width, "", api.ErrNum)
			}
		}
	}
}

func TestBytesWrong(t *testing.T) {
	wantBytes(t, 256, 1, "", api.ErrNum)
	wantBytes(t, 65536, 2, "", api.ErrNum)
	wantBytes(t, 1<<40, 5, "", api.ErrNum)
	wantBytes(t, api.MaxNum, 5, "", api.ErrNum)
	wantBytes(t, api.MaxNum+1, 7, "", api.ErrNum)
	wantBytes(t, api.MaxNum+1, 8, "", api.ErrNum)
	wantBytes(t, -1, 1, "", api.ErrNum)
	wantBytes(t, math.MinInt, 8, "", api.ErrNum)
	wantBytes(t, math.MaxInt, 8, "", api.ErrNum)
}

func TestBytesTellsTheWidthFirst(t *testing.T) {
	for _, width := range badWidths() {
		for _, n := range []int{0, 1, api.MaxNum, api.MaxNum + 1, -1, math.MinInt, math.MaxInt} {
			wantBytes(t, n, width, "", api.ErrArg)
		}
	}
}

func TestTakeFromTexts(t *testing.T) {
	wantTake(t, "\x01\x02\x03", 1, 2, 515, api.OK)
	wantTake(t, "\x01\x02\x03", 0, 3, 66051, api.OK)
	wantTake(t, "\x01\x02\x03", 0, 1, 1, api.OK)
	wantTake(t, "\x01\x02\x03", 2, 1, 3, api.OK)
	wantTake(t, "\x00\x00\x00", 0, 3, 0, api.OK)
	wantTake(t, "\x80\xff", 0, 2, 0x80ff, api.OK)
	wantTake(t, "\xff\xff\xff\xff\xff\xff\xff", 1, 6, api.MaxNum, api.OK)
	wantTake(t, "\x00\xff\xff\xff\xff\xff\xff", 0, 7, api.MaxNum, api.OK)
	wantTake(t, "a\x00\x00\xff\xff\xff\xff\xff\xffz", 1, 8, api.MaxNum, api.OK)
}

func TestTakeShort(t *testing.T) {
	wantTake(t, "", 0, 1, 0, api.ErrShort)
	wantTake(t, "", 0, 8, 0, api.ErrShort)
	wantTake(t, "", 1, 1, 0, api.ErrShort)
	wantTake(t, "", -1, 1, 0, api.ErrShort)
	wantTake(t, "\x01", 1, 1, 0, api.ErrShort)
	wantTake(t, "\x01", 2, 1, 0, api.ErrShort)
	wantTake(t, "\x01", 0, 2, 0, api.ErrShort)
	wantTake(t, "\x01\x02\x03", -1, 2, 0, api.ErrShort)
	wantTake(t, "\x01\x02\x03", 2, 2, 0, api.ErrShort)
	wantTake(t, "\x01\x02\x03\x04\x05\x06\x07", 0, 8, 0, api.ErrShort)
	for _, at := range []int{math.MinInt, math.MinInt + 1, 1 << 62, math.MaxInt - 1, math.MaxInt} {
		for width := 1; width <= 8; width++ {
			wantTake(t, "12345678", at, width, 0, api.ErrShort)
		}
	}
}

func TestTakeNoNumber(t *testing.T) {
	wantTake(t, "\x01\x00\x00\x00\x00\x00\x00", 0, 7, 0, api.ErrNum)
	wantTake(t, "\xff\xff\xff\xff\xff\xff\xff", 0, 7, 0, api.ErrNum)
	wantTake(t, "\x00\x01\x00\x00\x00\x00\x00\x00", 0, 8, 0, api.ErrNum)
	wantTake(t, "\x01\x00\x00\x00\x00\x00\x00\x00", 0, 8, 0, api.ErrNum)
	wantTake(t, "\x80\x00\x00\x00\x00\x00\x00\x00", 0, 8, 0, api.ErrNum)
	wantTake(t, "\xff\xff\xff\xff\xff\xff\xff\xff", 0, 8, 0, api.ErrNum)
	wantTake(t, "a\xff\xff\xff\xff\xff\xff\xff\xff", 1, 8, 0, api.ErrNum)
}

func TestTakeTellsTheFirstError(t *testing.T) {
	for _, width := range badWidths() {
		for _, at := range []int{math.MinInt, -1, 0, 1, 9, math.MaxInt} {
			wantTake(t, "\xff\xff\xff\xff\xff\xff\xff\xff\xff", at, width, 0, api.ErrArg)
			wantTake(t, "", at, width, 0, api.ErrArg)
		}
	}
	// Too great already, yet one byte short.
	wantTake(t, "\xff\xff\xff\xff\xff\xff\xff", 0, 8, 0, api.ErrShort)
}

// P1.2

func TestCut(t *testing.T) {
	wantCut(t, "abc", 0, 0, "", api.OK)
	wantCut(t, "abc", 0, 1, "a", api.OK)
	wantCut(t, "abc", 1, 1, "b", api.OK)
	wantCut(t, "abc", 1, 2, "bc", api.OK)
	wantCut(t, "abc", 0, 3, "abc", api.OK)
	wantCut(t, "abc", 3, 0, "", api.OK)
	wantCut(t, "", 0, 0, "", api.OK)
	wantCut(t, "\x00\xff\xc3\xa4", 1, 2, "\xff\xc3", api.OK)
}

func TestCutShort(t *testing.T) {
	wantCut(t, "abc", 0, 4, "", api.ErrShort)
	wantCut(t, "abc", 2, 2, "", api.ErrShort)
	wantCut(t, "abc", 3, 1, "", api.ErrShort)
	wantCut(t, "abc", 4, 0, "", api.ErrShort)
	wantCut(t, "abc", 4, -1, "", api.ErrShort)
	wantCut(t, "abc", -1, 0, "", api.ErrShort)
	wantCut(t, "abc", -1, 2, "", api.ErrShort)
	wantCut(t, "abc", 0, -1, "", api.ErrShort)
	wantCut(t, "abc", 2, -1, "", api.ErrShort)
	wantCut(t, "", 0, 1, "", api.ErrShort)
	wantCut(t, "", 1, 0, "", api.ErrShort)
	wantCut(t, "", 1, -1, "", api.ErrShort)
}

func TestCutWrapsNowhere(t *testing.T) {
	far := []int{math.MinInt, math.MinInt + 1, math.MinInt + 3, -1 << 62, 1 << 62, math.MaxInt - 3, math.MaxInt - 1, math.MaxInt}
	for _, a := range far {
		for _, b := range append([]int{-1, 0, 1, 2, 3}, far...) {
			wantCut(t, "abc", a, b, "", api.ErrShort)
			wantCut(t, "abc", b, a, "", api.ErrShort)
		}
		wantRest(t, "abc", a, "", api.ErrShort)
		wantRest(t, "", a, "", api.ErrShort)
	}
}

func TestRest(t *testing.T) {
	wantRest(t, "abc", 0, "abc", api.OK)
	wantRest(t, "abc", 1, "bc", api.OK)
	wantRest(t, "abc", 2, "c", api.OK)
	wantRest(t, "abc", 3, "", api.OK)
	wantRest(t, "", 0, "", api.OK)
	wantRest(t, "\x00\xff\xc3\xa4", 3, "\xa4", api.OK)
}

func TestRestShort(t *testing.T) {
	wantRest(t, "abc", 4, "", api.ErrShort)
	wantRest(t, "abc", -1, "", api.ErrShort)
	wantRest(t, "", 1, "", api.ErrShort)
	wantRest(t, "", -1, "", api.ErrShort)
}

// What is cut is new memory (R3).
func TestPiecesAreNewMemory(t *testing.T) {
	s := strings.Repeat("postrider", 9)
	from := uintptr(unsafe.Pointer(unsafe.StringData(s)))
	apart := func(part string) bool {
		p := uintptr(unsafe.Pointer(unsafe.StringData(part)))
		return p < from || p >= from+uintptr(len(s))
	}
	for at := range len(s) {
		if part, _ := nums.Rest(s, at); !apart(part) {
			t.Errorf("Rest(s, %d) shares memory with s", at)
		}
		if part, _ := nums.Cut(s, at, 1); !apart(part) {
			t.Errorf("Cut(s, %d, 1) shares memory with s", at)
		}
	}
}

// P1.3

func TestNumberIsTakenFromItsBytes(t *testing.T) {
	for _, n := range edges() {
		for width := 1; width <= 8; width++ {
			s, e := nums.Bytes(n, width)
			if e != api.OK {
				continue
			}
			wantTake(t, s, 0, width, n, api.OK)
			wantTake(t, "\xff\x00"+s+"\xff", 2, width, n, api.OK)
		}
	}
}

func TestBytesOfTakenNumber(t *testing.T) {
	s := "\x00\x00\x01\x7f\x80\xff\x00\xfe\xff\xff\x02\x00\x00\x00\x00"
	for at := range len(s) {
		for width := 1; width <= 8 && at+width <= len(s); width++ {
			n, e := nums.Take(s, at, width)
			if e == api.OK {
				wantBytes(t, n, width, s[at:at+width], api.OK)
			} else if e != api.ErrNum || width < 7 {
				t.Errorf("Take(s, %d, %d): error %d", at, width, e)
			}
		}
	}
}

func TestLesserNumberFirst(t *testing.T) {
	for width := 1; width <= 8; width++ {
		for _, a := range edges() {
			for _, b := range edges() {
				x, e := nums.Bytes(a, width)
				y, f := nums.Bytes(b, width)
				if e == api.OK && f == api.OK && (x < y) != (a < b) {
					t.Errorf("width %d: %d is %x, %d is %x", width, a, x, b, y)
				}
			}
		}
	}
}

func TestTextIsItsPieceAndItsRest(t *testing.T) {
	for _, s := range []string{"", "a", "abc", "\x00\xff\x80", strings.Repeat("bundle ", 300)} {
		for at := 0; at <= len(s); at++ {
			piece, e := nums.Cut(s, 0, at)
			rest, f := nums.Rest(s, at)
			if e != api.OK || f != api.OK || len(piece) != at || piece+rest != s {
				t.Errorf("%q at %d: %q (%d), %q (%d)", s, at, piece, e, rest, f)
			}
		}
	}
}
