package sdnv_test

import (
	"math"
	"math/big"
	"slices"
	"strings"
	"testing"

	"postrider/api"
	"postrider/sdnv"
)

const maxGroups = "\xbf\xff\xff\xff\xff\xff\x7f"

// pastGroups are those of the number behind the greatest one.
const pastGroups = "\xc0\x80\x80\x80\x80\x80\x00"

// numbers are at and beside all powers of two, that is also where one more group begins.
func numbers() []int {
	l := []int{0, 127, 128, 300, api.MaxNum}
	for bit := range 48 {
		for d := -2; d <= 2; d++ {
			if n := 1<<bit + d; 0 <= n && n <= api.MaxNum {
				l = append(l, n)
			}
		}
	}
	slices.Sort(l)
	return slices.Compact(l)
}

func noNumbers() []int {
	return []int{math.MinInt, math.MinInt + 1, -1 << 48, -128, -1, api.MaxNum + 1, api.MaxNum + 2, 1 << 49, 1 << 62, math.MaxInt - 1, math.MaxInt}
}

// plainGroups are n's, worked out digit by digit as the chapter says.
func plainGroups(n int) string {
	s := string([]byte{byte(n % 128)})
	for n /= 128; n > 0; n /= 128 {
		s = string([]byte{byte(n%128) + 128}) + s
	}
	return s
}

// plainDecode is what the chapter says of Decode, by whole numbers of any size.
func plainDecode(s string, at int) (int, int, api.Errno) {
	if at < 0 || at > len(s) {
		return 0, 0, api.ErrShort
	}
	end := at
	for end < len(s) && s[end] >= 128 {
		end++
	}
	if end == len(s) {
		return 0, 0, api.ErrShort
	}
	end++
	if s[at] == 128 {
		return 0, 0, api.ErrForm
	}
	n := new(big.Int)
	for _, b := range []byte(s[at:end]) {
		n.Add(n.Mul(n, big.NewInt(128)), big.NewInt(int64(b%128)))
	}
	if n.Cmp(big.NewInt(api.MaxNum)) > 0 {
		return 0, 0, api.ErrNum
	}
	return int(n.Int64()), end, api.OK
}

// texts are all of up to so many bytes of an alphabet.
func texts(alphabet string, most int) []string {
	l := []string{""}
	for from := 0; most > 0; most-- {
		to := len(l)
		for _, s := range l[from:to] {
			for _, b := range []byte(alphabet) {
				l = append(l, s+string([]byte{b}))
			}
		}
		from = to
	}
	return l
}

func wantGroups(t *testing.T, n int, want string, wantErr api.Errno) {
	t.Helper()
	if s, e := sdnv.Encode(n); s != want || e != wantErr {
		t.Errorf("Encode(%d) = %x, %d; want %x, %d", n, s, e, want, wantErr)
	}
	if k, e := sdnv.Size(n); k != len(want) || e != wantErr {
		t.Errorf("Size(%d) = %d, %d; want %d, %d", n, k, e, len(want), wantErr)
	}
}

func wantDecode(t *testing.T, s string, at int, want int, wantAt int, wantErr api.Errno) {
	t.Helper()
	if n, behind, e := sdnv.Decode(s, at); n != want || behind != wantAt || e != wantErr {
		t.Errorf("Decode(%x, %d) = %d, %d, %d; want %d, %d, %d", short(s), at, n, behind, e, want, wantAt, wantErr)
	}
}

func wantList(t *testing.T, l []int, want string, wantErr api.Errno) {
	t.Helper()
	if s, e := sdnv.List(l); s != want || e != wantErr {
		t.Errorf("List(%d) = %x, %d; want %x, %d", l, short(s), e, short(want), wantErr)
	}
}

func wantAll(t *testing.T, s string, want []int, wantErr api.Errno) {
	t.Helper()
	if l, e := sdnv.All(s); !slices.Equal(l, want) || e != wantErr {
		t.Errorf("All(%x) = %d, %d; want %d, %d", short(s), l, e, want, wantErr)
	}
}

func short(s string) string { return s[:min(len(s), 40)] }

// P2.1

func TestGroupsOfNumbers(t *testing.T) {
	wantGroups(t, 0, "\x00", api.OK)
	wantGroups(t, 1, "\x01", api.OK)
	wantGroups(t, 127, "\x7f", api.OK)
	wantGroups(t, 128, "\x81\x00", api.OK)
	wantGroups(t, 129, "\x81\x01", api.OK)
	wantGroups(t, 300, "\x82\x2c", api.OK)
	wantGroups(t, 16383, "\xff\x7f", api.OK)
	wantGroups(t, 16384, "\x81\x80\x00", api.OK)
	wantGroups(t, 1<<42-1, "\xff\xff\xff\xff\xff\x7f", api.OK)
	wantGroups(t, 1<<42, "\x81\x80\x80\x80\x80\x80\x00", api.OK)
	wantGroups(t, api.MaxNum, maxGroups, api.OK)
	for _, n := range numbers() {
		wantGroups(t, n, plainGroups(n), api.OK)
	}
}

func TestNoNumberHasGroups(t *testing.T) {
	for _, n := range noNumbers() {
		wantGroups(t, n, "", api.ErrNum)
	}
}

func TestDecode(t *testing.T) {
	wantDecode(t, "\x00", 0, 0, 1, api.OK)
	wantDecode(t, "\x7f", 0, 127, 1, api.OK)
	wantDecode(t, "\x81\x00", 0, 128, 2, api.OK)
	wantDecode(t, "\x82\x2c", 0, 300, 2, api.OK)
	wantDecode(t, "\x82\x2c", 1, 44, 2, api.OK)
	wantDecode(t, "\x81\x80\x00", 0, 16384, 3, api.OK)
	wantDecode(t, maxGroups, 0, api.MaxNum, 7, api.OK)
	wantDecode(t, "\xff\x80"+maxGroups+"\xff", 2, api.MaxNum, 9, api.OK)
	wantDecode(t, "ab", 1, 98, 2, api.OK)
}

func TestDecodeShort(t *testing.T) {
	wantDecode(t, "", 0, 0, 0, api.ErrShort)
	wantDecode(t, "\x01", 1, 0, 0, api.ErrShort)
	wantDecode(t, "\x81", 0, 0, 0, api.ErrShort)
	wantDecode(t, "\x01\x81", 1, 0, 0, api.ErrShort)
	wantDecode(t, "\xff\xff\xff", 0, 0, 0, api.ErrShort)
	wantDecode(t, "\x81\x00\x81\x80", 2, 0, 0, api.ErrShort)
}

func TestDecodeAtNoPlace(t *testing.T) {
	for _, s := range []string{"", "\x01", "\x81\x00", "\x80\x01", pastGroups} {
		for _, at := range []int{math.MinInt, math.MinInt + 1, -2, -1, len(s) + 1, len(s) + 2, 1 << 62, math.MaxInt - 1, math.MaxInt} {
			wantDecode(t, s, at, 0, 0, api.ErrShort)
		}
	}
}

func TestDecodeNoughtAhead(t *testing.T) {
	wantDecode(t, "\x80\x00", 0, 0, 0, api.ErrForm)
	wantDecode(t, "\x80\x01", 0, 0, 0, api.ErrForm)
	wantDecode(t, "\x80\x80\x01", 0, 0, 0, api.ErrForm)
	wantDecode(t, "\x01\x80\x01\x02", 1, 0, 0, api.ErrForm)
	wantDecode(t, "\x80"+maxGroups, 0, 0, 0, api.ErrForm)
	// Such a group is one like others, unless it is the first one.
	wantDecode(t, "\x80\x81\x80\x01", 1, 16385, 4, api.OK)
}

func TestDecodeTooGreat(t *testing.T) {
	wantDecode(t, pastGroups, 0, 0, 0, api.ErrNum)
	wantDecode(t, "\x05"+pastGroups, 1, 0, 0, api.ErrNum)
	wantDecode(t, "\xff\xff\xff\xff\xff\xff\x7f", 0, 0, 0, api.ErrNum)
	wantDecode(t, "\x81\x80\x80\x80\x80\x80\x80\x00", 0, 0, 0, api.ErrNum)
	// 2^63, 2^64, 2^64 + 5 and 2^70: a number of the machine wraps round there.
	wantDecode(t, "\x81"+strings.Repeat("\x80", 8)+"\x00", 0, 0, 0, api.ErrNum)
	wantDecode(t, "\x82"+strings.Repeat("\x80", 8)+"\x00", 0, 0, 0, api.ErrNum)
	wantDecode(t, "\x82"+strings.Repeat("\x80", 8)+"\x05", 0, 0, 0, api.ErrNum)
	wantDecode(t, "\x81"+strings.Repeat("\x80", 9)+"\x00", 0, 0, 0, api.ErrNum)
	wantDecode(t, "\x81"+strings.Repeat("\x80", 9999)+"\x00", 0, 0, 0, api.ErrNum)
	wantDecode(t, strings.Repeat("\xff", 9999)+"\x7f", 0, 0, 0, api.ErrNum)
}

func TestDecodeTellsTheFirstError(t *testing.T) {
	// Short ahead of a first group 80.
	wantDecode(t, "\x80", 0, 0, 0, api.ErrShort)
	wantDecode(t, "\x80\x81", 0, 0, 0, api.ErrShort)
	// Short ahead of too great a number, that is known long before the end.
	wantDecode(t, strings.Repeat("\xff", 12), 0, 0, 0, api.ErrShort)
	wantDecode(t, strings.Repeat("\xff", 9999), 0, 0, 0, api.ErrShort)
	// All three, and then the last two.
	wantDecode(t, "\x80"+strings.Repeat("\xff", 12), 0, 0, 0, api.ErrShort)
	wantDecode(t, "\x80"+strings.Repeat("\xff", 12)+"\x00", 0, 0, 0, api.ErrForm)
	wantDecode(t, "\x80"+pastGroups, 0, 0, 0, api.ErrForm)
}

func TestDecodeAllShortTexts(t *testing.T) {
	for _, s := range texts("\x00\x01\x7f\x80\x81\xbf\xc0\xff", 4) {
		for at := -1; at <= len(s)+1; at++ {
			n, behind, e := plainDecode(s, at)
			wantDecode(t, s, at, n, behind, e)
		}
	}
}

func TestDecodeAboutTheGreatestNumber(t *testing.T) {
	for _, first := range texts("\x80\x81\xbf\xc0\xff", 3) {
		for _, filler := range []string{"\x80", "\xff"} {
			for k := 2; k <= 9; k++ {
				for _, last := range []string{"\x00", "\x7f", ""} {
					s := first + strings.Repeat(filler, k) + last
					n, behind, e := plainDecode(s, 0)
					wantDecode(t, s, 0, n, behind, e)
				}
			}
		}
	}
}

// P2.2

func TestList(t *testing.T) {
	wantList(t, nil, "", api.OK)
	wantList(t, []int{}, "", api.OK)
	wantList(t, []int{0}, "\x00", api.OK)
	wantList(t, []int{300}, "\x82\x2c", api.OK)
	wantList(t, []int{0, 127, 128, 0}, "\x00\x7f\x81\x00\x00", api.OK)
	wantList(t, []int{api.MaxNum, 1, api.MaxNum}, maxGroups+"\x01"+maxGroups, api.OK)
	want := ""
	for _, n := range numbers() {
		want += plainGroups(n)
	}
	wantList(t, numbers(), want, api.OK)
}

func TestListOfNoNumbers(t *testing.T) {
	for _, n := range noNumbers() {
		wantList(t, []int{n}, "", api.ErrNum)
		wantList(t, []int{n, 1, 2}, "", api.ErrNum)
		wantList(t, []int{1, n, 2}, "", api.ErrNum)
		wantList(t, []int{1, 2, n}, "", api.ErrNum)
		wantList(t, []int{n, n}, "", api.ErrNum)
	}
}

func TestAll(t *testing.T) {
	wantAll(t, "", nil, api.OK)
	wantAll(t, "\x00", []int{0}, api.OK)
	wantAll(t, "\x00\x00", []int{0, 0}, api.OK)
	wantAll(t, "\x82\x2c", []int{300}, api.OK)
	wantAll(t, "\x00\x7f\x81\x00\x00", []int{0, 127, 128, 0}, api.OK)
	wantAll(t, maxGroups+"\x01"+maxGroups, []int{api.MaxNum, 1, api.MaxNum}, api.OK)
}

func TestAllTellsTheFirstError(t *testing.T) {
	for _, ahead := range []string{"", "\x01", "\x81\x00\x05", maxGroups} {
		wantAll(t, ahead+"\x81", nil, api.ErrShort)
		wantAll(t, ahead+"\x80", nil, api.ErrShort)
		wantAll(t, ahead+strings.Repeat("\xff", 12), nil, api.ErrShort)
		wantAll(t, ahead+"\x80\x01", nil, api.ErrForm)
		wantAll(t, ahead+"\x80"+pastGroups, nil, api.ErrForm)
		wantAll(t, ahead+pastGroups, nil, api.ErrNum)
		// The one that stands ahead is told, not the one that a single number would tell first.
		wantAll(t, ahead+pastGroups+"\x80\x01\x81", nil, api.ErrNum)
		wantAll(t, ahead+"\x80\x01"+pastGroups+"\x81", nil, api.ErrForm)
		wantAll(t, ahead+pastGroups+"\x07", nil, api.ErrNum)
	}
}

func TestAllOfShortTexts(t *testing.T) {
	for _, s := range texts("\x00\x01\x7f\x80\x81\xff", 5) {
		var want []int
		wantErr := api.OK
		for at := 0; at < len(s) && wantErr == api.OK; {
			var n int
			if n, at, wantErr = plainDecode(s, at); wantErr == api.OK {
				want = append(want, n)
			} else {
				want = nil
			}
		}
		wantAll(t, s, want, wantErr)
	}
}

// One step a byte, and not one a byte and number: else these would take hours (R1).
func TestLongTexts(t *testing.T) {
	const many = 1 << 20
	l, e := sdnv.All(strings.Repeat("\x81\x00", many))
	if len(l) != many || e != api.OK || l[0] != 128 || l[many-1] != 128 {
		t.Errorf("%d numbers, error %d", len(l), e)
	}
	s, e := sdnv.List(l)
	if s != strings.Repeat("\x81\x00", many) || e != api.OK {
		t.Errorf("%d bytes, error %d", len(s), e)
	}
	wantAll(t, strings.Repeat("\x01", many)+"\x81", nil, api.ErrShort)
	wantAll(t, strings.Repeat("\xff", many), nil, api.ErrShort)
}

// What is handed in is not written into, nor its spare room (R3).
func TestListLeavesItsList(t *testing.T) {
	room := []int{1, 128, 300, 77, 78}
	sdnv.List(room[:3])
	sdnv.List(append(room[:2:2], -1))
	if !slices.Equal(room, []int{1, 128, 300, 77, 78}) {
		t.Error(room)
	}
}

// What is answered is new memory, spare room too (R3).
func TestAllAnswersNewMemory(t *testing.T) {
	s := "\x01\x02\x03\x04\x05"
	a, _ := sdnv.All(s)
	b, _ := sdnv.All(s)
	for i := range a[:cap(a)] {
		a[:cap(a)][i] = 99
	}
	if !slices.Equal(b, []int{1, 2, 3, 4, 5}) {
		t.Error(b)
	}
	wantAll(t, s, []int{1, 2, 3, 4, 5}, api.OK)
}

// P2.3

func TestNumberIsDecodedFromItsGroups(t *testing.T) {
	for _, n := range numbers() {
		s, _ := sdnv.Encode(n)
		for _, behind := range []string{"", "\x00", "\x7f", "\x80", "\xff", "\xff\xff\xff\xff\xff\xff\xff\xff\xff\xff", pastGroups} {
			wantDecode(t, s+behind, 0, n, len(s), api.OK)
			wantDecode(t, "\xff\x80"+s+behind, 2, n, len(s)+2, api.OK)
		}
	}
}

func TestDecodedNumberHasTheseGroups(t *testing.T) {
	for _, s := range texts("\x00\x01\x7f\x80\x81\xbf\xff", 4) {
		if n, behind, e := sdnv.Decode(s, 0); e == api.OK {
			wantGroups(t, n, s[:behind], api.OK)
		}
	}
}

func TestNoGroupsBeginOthers(t *testing.T) {
	l := numbers()
	for n := range 1000 {
		l = append(l, n)
	}
	for _, a := range l {
		for _, b := range l {
			s, _ := sdnv.Encode(a)
			u, _ := sdnv.Encode(b)
			if a != b && strings.HasPrefix(u, s) {
				t.Errorf("%x of %d begins %x of %d", s, a, u, b)
			}
		}
	}
}

func TestListIsDecodedAgain(t *testing.T) {
	for _, l := range [][]int{nil, {0}, {0, 0, 0}, {0, 127, 128, 1 << 40}, numbers()} {
		s, e := sdnv.List(l)
		if e != api.OK {
			t.Errorf("List(%d): error %d", l, e)
		}
		wantAll(t, s, l, api.OK)
	}
}
