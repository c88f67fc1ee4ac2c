package head_test

import (
	"encoding/binary"
	"math"
	"slices"
	"strings"
	"testing"

	"postrider/api"
	"postrider/head"
)

func majors() []int { return []int{api.Number, api.Bytes, api.Text, api.List} }

func noMajors() []int {
	return []int{math.MinInt, -8, -4, -1, 1, 5, 6, 7, 8, 32, 256, 258, 1 << 32, math.MaxInt}
}

// numbers are at and beside all powers of two, that is also where one more width begins, and about 24.
func numbers() []int {
	l := []int{0, 22, 23, 24, 25, 26, 27, 28, 31, 32, 300, api.MaxNum}
	for bit := range 49 {
		for d := -2; d <= 2; d++ {
			if n := 1<<bit + d; 0 <= n && n <= api.MaxNum {
				l = append(l, n)
			}
		}
	}
	slices.Sort(l)
	return slices.Compact(l)
}

func noNumbers() []int {
	return []int{math.MinInt, math.MinInt + 1, -1 << 48, -24, -1, api.MaxNum + 1, api.MaxNum + 2, 1 << 49, 1 << 62, math.MaxInt - 1, math.MaxInt}
}

// behinds are bytes that may stand behind a head.
func behinds() []string {
	return []string{"", "\x00", "\x17", "\x18", "\x1b", "\xff", "\xff\xff\xff\xff\xff\xff\xff\xff\xff"}
}

// wideHead are the bytes of a head whose argument stands behind the first byte in a width, shortest or not.
func wideHead(major int, n uint64, width int) string {
	added := map[int]int{1: 24, 2: 25, 4: 26, 8: 27}[width]
	b := binary.BigEndian.AppendUint64(nil, n)
	return string([]byte{byte(32*major + added)}) + string(b[8-width:])
}

// plainHead are a head's bytes as the chapter says them.
func plainHead(major int, n int) string {
	switch {
	case n < 24:
		return string([]byte{byte(32*major + n)})
	case n < 256:
		return wideHead(major, uint64(n), 1)
	case n < 65536:
		return wideHead(major, uint64(n), 2)
	case n < 4294967296:
		return wideHead(major, uint64(n), 4)
	}
	return wideHead(major, uint64(n), 8)
}

// plainDecode is what the chapter says of Decode, rule by rule.
func plainDecode(s string, at int) (int, int, int, api.Errno) {
	if at < 0 || at >= len(s) {
		return 0, 0, 0, api.ErrShort
	}
	major, added := int(s[at]>>5), int(s[at]&31)
	if !slices.Contains(majors(), major) || added > 27 {
		return 0, 0, 0, api.ErrForm
	}
	if added < 24 {
		return major, added, at + 1, api.OK
	}
	width := 1 << (added - 24)
	if len(s)-at-1 < width {
		return 0, 0, 0, api.ErrShort
	}
	n := uint64(0)
	for _, b := range []byte(s[at+1 : at+1+width]) {
		n = n*256 + uint64(b)
	}
	if n > 281474976710655 {
		return 0, 0, 0, api.ErrNum
	}
	if len(plainHead(major, int(n))) < 1+width {
		return 0, 0, 0, api.ErrForm
	}
	return major, int(n), at + 1 + width, api.OK
}

func wantEncode(t *testing.T, major int, n int, want string, wantErr api.Errno) {
	t.Helper()
	if s, e := head.Encode(major, n); s != want || e != wantErr {
		t.Errorf("Encode(%d, %d) = %x, %d; want %x, %d", major, n, s, e, want, wantErr)
	}
}

func wantSize(t *testing.T, n int, want int, wantErr api.Errno) {
	t.Helper()
	if k, e := head.Size(n); k != want || e != wantErr {
		t.Errorf("Size(%d) = %d, %d; want %d, %d", n, k, e, want, wantErr)
	}
}

func wantDecode(t *testing.T, s string, at int, major int, n int, behind int, wantErr api.Errno) {
	t.Helper()
	if m, k, place, e := head.Decode(s, at); m != major || k != n || place != behind || e != wantErr {
		t.Errorf("Decode(%x, %d) = %d, %d, %d, %d; want %d, %d, %d, %d", s, at, m, k, place, e, major, n, behind, wantErr)
	}
}

func wantRefused(t *testing.T, s string, at int, wantErr api.Errno) {
	t.Helper()
	wantDecode(t, s, at, 0, 0, 0, wantErr)
}

// wantPlain holds Decode against what the chapter says.
func wantPlain(t *testing.T, s string, at int) {
	t.Helper()
	major, n, behind, e := plainDecode(s, at)
	wantDecode(t, s, at, major, n, behind, e)
}

// P3.1

func TestHeadsOfTheChapter(t *testing.T) {
	wantEncode(t, api.Number, 23, "\x17", api.OK)
	wantEncode(t, api.Number, 24, "\x18\x18", api.OK)
	wantEncode(t, api.List, 300, "\x99\x01\x2c", api.OK)
	wantEncode(t, api.Number, 300, "\x19\x01\x2c", api.OK)
}

func TestEncodeAtTheWidths(t *testing.T) {
	wantEncode(t, api.Number, 0, "\x00", api.OK)
	wantEncode(t, api.Bytes, 0, "\x40", api.OK)
	wantEncode(t, api.Text, 0, "\x60", api.OK)
	wantEncode(t, api.List, 0, "\x80", api.OK)
	wantEncode(t, api.List, 23, "\x97", api.OK)
	wantEncode(t, api.List, 24, "\x98\x18", api.OK)
	wantEncode(t, api.Bytes, 255, "\x58\xff", api.OK)
	wantEncode(t, api.Text, 256, "\x79\x01\x00", api.OK)
	wantEncode(t, api.Number, 65535, "\x19\xff\xff", api.OK)
	wantEncode(t, api.Number, 65536, "\x1a\x00\x01\x00\x00", api.OK)
	wantEncode(t, api.Text, 1<<32-1, "\x7a\xff\xff\xff\xff", api.OK)
	wantEncode(t, api.List, 1<<32, "\x9b\x00\x00\x00\x01\x00\x00\x00\x00", api.OK)
	wantEncode(t, api.Bytes, api.MaxNum, "\x5b\x00\x00\xff\xff\xff\xff\xff\xff", api.OK)
}

func TestEncodeAllNumbers(t *testing.T) {
	for _, major := range majors() {
		for _, n := range numbers() {
			wantEncode(t, major, n, plainHead(major, n), api.OK)
		}
		for n := range 1 << 17 {
			wantEncode(t, major, n, plainHead(major, n), api.OK)
		}
	}
}

func TestEncodeNoNumber(t *testing.T) {
	for _, major := range majors() {
		for _, n := range noNumbers() {
			wantEncode(t, major, n, "", api.ErrNum)
		}
	}
}

func TestEncodeTellsTheMajorFirst(t *testing.T) {
	for _, major := range noMajors() {
		for _, n := range append(numbers(), noNumbers()...) {
			wantEncode(t, major, n, "", api.ErrArg)
		}
	}
}

func TestSize(t *testing.T) {
	for n, want := range map[int]int{0: 1, 23: 1, 24: 2, 255: 2, 256: 3, 65535: 3, 65536: 5, 1<<32 - 1: 5, 1 << 32: 9, api.MaxNum: 9} {
		wantSize(t, n, want, api.OK)
	}
	for _, n := range numbers() {
		for _, major := range majors() {
			wantSize(t, n, len(plainHead(major, n)), api.OK)
		}
	}
}

func TestSizeOfNoNumber(t *testing.T) {
	for _, n := range noNumbers() {
		wantSize(t, n, 0, api.ErrNum)
	}
}

// P3.2

func TestDecode(t *testing.T) {
	wantDecode(t, "\x17", 0, api.Number, 23, 1, api.OK)
	wantDecode(t, "\x18\x18", 0, api.Number, 24, 2, api.OK)
	wantDecode(t, "\x99\x01\x2c", 0, api.List, 300, 3, api.OK)
	wantDecode(t, "\xff\x99\x01\x2c\xff", 1, api.List, 300, 4, api.OK)
	wantDecode(t, "\x99\x01\x2c", 1, api.Number, 1, 2, api.OK)
	wantDecode(t, "\x40", 0, api.Bytes, 0, 1, api.OK)
	wantDecode(t, "\x58\xff", 0, api.Bytes, 255, 2, api.OK)
	wantDecode(t, "\x7a\x00\x01\x00\x00", 0, api.Text, 65536, 5, api.OK)
	wantDecode(t, "\x9b\x00\x00\x00\x01\x00\x00\x00\x00", 0, api.List, 1<<32, 9, api.OK)
	wantDecode(t, "\x1b\x00\x00\xff\xff\xff\xff\xff\xff", 0, api.Number, api.MaxNum, 9, api.OK)
}

func TestDecodeAtNoPlace(t *testing.T) {
	for _, s := range []string{"", "\x17", "\x18\x18", "\x20", "\x1c", "\x1b\xff\xff\xff\xff\xff\xff\xff\xff"} {
		for _, at := range []int{math.MinInt, math.MinInt + 1, -2, -1, len(s), len(s) + 1, len(s) + 2, 1 << 62, math.MaxInt - 8, math.MaxInt - 1, math.MaxInt} {
			wantRefused(t, s, at, api.ErrShort)
		}
	}
}

func TestDecodeAllFirstBytes(t *testing.T) {
	for first := range 256 {
		s := string([]byte{byte(first)})
		right := slices.Contains(majors(), first/32)
		switch {
		case !right || first%32 > 27:
			wantRefused(t, s, 0, api.ErrForm)
		case first%32 < 24:
			wantDecode(t, s, 0, first/32, first%32, 1, api.OK)
		default:
			wantRefused(t, s, 0, api.ErrShort)
		}
		for _, behind := range behinds() {
			wantPlain(t, s+behind, 0)
			wantPlain(t, "\x1b"+s+behind, 1)
		}
	}
}

func TestDecodeNoSuchHead(t *testing.T) {
	for _, first := range []string{"\x20", "\x37", "\x38", "\x3b", "\xa0", "\xb8", "\xc0", "\xdb", "\xe0", "\xf6", "\xff", "\x1c", "\x1f", "\x5c", "\x5f", "\x7d", "\x7f", "\x9e", "\x9f"} {
		for _, behind := range behinds() {
			wantRefused(t, first+behind, 0, api.ErrForm)
		}
	}
}

func TestDecodeShortArgument(t *testing.T) {
	for _, major := range majors() {
		for _, width := range []int{1, 2, 4, 8} {
			// Whatever those bytes tell that do stand there.
			for _, n := range []uint64{math.MaxUint64, 0, 1<<(8*width-1) - 1} {
				s := wideHead(major, n, width)
				for size := 1; size < len(s); size++ {
					wantRefused(t, s[:size], 0, api.ErrShort)
					wantRefused(t, "\x00\x00"+s[:size], 2, api.ErrShort)
				}
			}
		}
	}
}

func TestDecodeNoNumber(t *testing.T) {
	for _, major := range majors() {
		for _, n := range []uint64{api.MaxNum + 1, api.MaxNum + 24, 1 << 49, 1 << 56, 1<<56 + 1, 1 << 62, 1<<63 - 1, 1 << 63, 1<<63 + 1, math.MaxUint64 - 1, math.MaxUint64} {
			for _, behind := range behinds() {
				wantRefused(t, wideHead(major, n, 8)+behind, 0, api.ErrNum)
				wantRefused(t, "\x00"+wideHead(major, n, 8)+behind, 1, api.ErrNum)
			}
		}
	}
}

func TestDecodeLongerThanNeeded(t *testing.T) {
	for _, major := range majors() {
		for _, n := range numbers() {
			for _, width := range []int{1, 2, 4, 8} {
				if width < 8 && n >= 1<<(8*width) {
					continue
				}
				s := wideHead(major, uint64(n), width)
				if s == plainHead(major, n) {
					wantDecode(t, s, 0, major, n, len(s), api.OK)
				} else {
					wantRefused(t, s, 0, api.ErrForm)
					wantRefused(t, "\x18"+s+"\x18", 1, api.ErrForm)
				}
			}
		}
	}
	wantRefused(t, "\x18\x00", 0, api.ErrForm)
	wantRefused(t, "\x18\x17", 0, api.ErrForm)
	wantRefused(t, "\x99\x00\xff", 0, api.ErrForm)
	wantRefused(t, "\x5a\x00\x00\xff\xff", 0, api.ErrForm)
	wantRefused(t, "\x7b\x00\x00\x00\x00\xff\xff\xff\xff", 0, api.ErrForm)
}

func TestDecodeTellsTheFirstError(t *testing.T) {
	// A first byte that no head has, ahead of bytes that are missing, too great, or too many.
	wantRefused(t, "\x3b", 0, api.ErrForm)
	wantRefused(t, "\x3b\xff\xff\xff\xff\xff\xff\xff\xff", 0, api.ErrForm)
	wantRefused(t, "\xb8", 0, api.ErrForm)
	// Missing bytes, ahead of a number that is too great already, and of a head that is too long already.
	wantRefused(t, "\x1b\xff\xff\xff\xff\xff\xff\xff", 0, api.ErrShort)
	wantRefused(t, "\x1b\x00\x00\x00\x00\x00\x00\x00", 0, api.ErrShort)
	wantRefused(t, "\x19\x00", 0, api.ErrShort)
}

func TestDecodeShortTexts(t *testing.T) {
	const alphabet = "\x00\x01\x17\x18\x19\x1a\x1b\x1c\x20\x40\x59\x7f\x80\x98\xff"
	l := []string{""}
	for i := 0; len(l[i]) < 4; i++ {
		for _, b := range []byte(alphabet) {
			l = append(l, l[i]+string([]byte{b}))
		}
	}
	for _, s := range l {
		for at := -1; at <= len(s)+1; at++ {
			wantPlain(t, s, at)
		}
	}
}

func TestDecodeAllShortArguments(t *testing.T) {
	for _, major := range majors() {
		for n := range uint64(256) {
			wantPlain(t, wideHead(major, n, 1), 0)
		}
		for n := range uint64(65536) {
			wantPlain(t, wideHead(major, n, 2), 0)
		}
	}
}

// Only the head is looked at, not what stands behind: else this would take hours (R1).
func TestDecodeInALongText(t *testing.T) {
	const many = 1 << 20
	s := strings.Repeat("\x19\x01\x2c", many)
	at := 0
	for range many {
		major, n, behind, e := head.Decode(s, at)
		if major != api.Number || n != 300 || behind != at+3 || e != api.OK {
			t.Fatalf("at %d: %d, %d, %d, %d", at, major, n, behind, e)
		}
		at = behind
	}
	if _, _, _, e := head.Decode(s, at); at != len(s) || e != api.ErrShort {
		t.Errorf("the end is %d, error %d", at, e)
	}
}

// P3.3

func TestHeadIsDecodedFromItsBytes(t *testing.T) {
	for _, major := range majors() {
		for _, n := range numbers() {
			s, _ := head.Encode(major, n)
			for _, behind := range behinds() {
				wantDecode(t, s+behind, 0, major, n, len(s), api.OK)
				wantDecode(t, "\x9b\xff"+s+behind, 2, major, n, len(s)+2, api.OK)
			}
		}
	}
}

func TestDecodedHeadHasTheseBytes(t *testing.T) {
	for first := range 256 {
		for _, argument := range []string{"\x00\x00\x00\x00\x00\x00\x00\x00", "\x17\xff\xff\xff\xff\xff\xff\xff", "\x18\x00\x00\x00\x00\x00\x00\x00", "\x00\x00\x01\x00\x00\x00\x00\x00", "\x00\x00\xff\xff\xff\xff\xff\xff", "\x00\x01\x00\x00\x00\x00\x00\x00"} {
			s := string([]byte{byte(first)}) + argument
			if major, n, behind, e := head.Decode(s, 0); e == api.OK {
				wantEncode(t, major, n, s[:behind], api.OK)
			}
		}
	}
}

func TestNoHeadBeginsAnother(t *testing.T) {
	var l []string
	for _, major := range majors() {
		for _, n := range numbers() {
			s, _ := head.Encode(major, n)
			l = append(l, s)
		}
	}
	for i, s := range l {
		for j, u := range l {
			if i != j && strings.HasPrefix(u, s) {
				t.Errorf("%x begins %x", s, u)
			}
		}
	}
}
