package frame_test

import (
	"encoding/binary"
	"fmt"
	"hash/crc32"
	"math"
	"math/rand"
	"slices"
	"strconv"
	"strings"
	"testing"

	"postrider/api"
	"postrider/frame"
)

// most is the greatest number.
const most = 1<<48 - 1

func rec(op int, id int, data string) api.Rec { return api.Rec{Op: op, Id: id, Data: data} }

func recs(l ...api.Rec) []api.Rec { return l }

// long is a text of so many bytes, not two of which beside each other are alike.
func long(n int) string {
	b := make([]byte, n)
	for i := range b {
		b[i] = byte(i*7 + i>>8)
	}
	return string(b)
}

// rightRecords are ordinary ones, and those at the edges.
func rightRecords() []api.Rec {
	return recs(
		rec(3, 258, ""), rec(1, 0, ""), rec(9, most, "ab"), rec(1, 1, long(2000)), rec(9, most, strings.Repeat("\xff", 2000)), rec(9, 0, long(1999)),
		rec(5, 7, "\xe1"), rec(4, 1<<40, "\x00"), rec(2, 0xe1e1e1e1e1e1, "\xe1\xe1\xe1"), rec(7, 255, long(255)), rec(8, 256, long(256)), rec(6, 1<<32, long(257)),
		rec(3, 65535, "\xed\xa0\x80"), rec(1, 2, strings.Repeat("\x00", 64)), rec(2, 5, plainFrame(rec(1, 1, "inner"))),
	)
}

// wrongOps are no kinds of records, some of which have a right one's lowest bits.
func wrongOps() []int {
	l := []int{math.MinInt, math.MinInt + 1, -1 << 32, -256, -255, -9, 255, 256, 257, 265, 0xe1, 1<<16 + 1, 1<<32 + 1, 1<<32 + 9, 1<<48 + 1, 1<<56 + 3, math.MaxInt}
	for n := -3; n <= 0; n++ {
		l = append(l, n)
	}
	for n := 10; n <= 40; n++ {
		l = append(l, n)
	}
	return l
}

// wrongIds are no numbers, some of which have a right one's lowest bits.
func wrongIds() []int {
	return []int{math.MinInt, math.MinInt + 258, -1 << 48, -1<<48 + 1, -258, -2, -1, most + 1, most + 2, most + 259, 1<<49 + 1, 1 << 56, 1<<56 + 258, math.MaxInt - 1, math.MaxInt}
}

// wrongSizes are how many bytes no Data has, some of which have a right one's lowest bits.
func wrongSizes() []int {
	return []int{2001, 2002, 2047, 2048, 4000, 1<<15 + 1, 1<<16 - 1, 1 << 16, 1<<16 + 1, 1<<16 + 2000, 1 << 20}
}

func wrongRecords() []api.Rec {
	l := recs(api.Rec{}, rec(0, 258, "ab"), rec(10, most, long(2000)), rec(0, -1, long(2001)), rec(-1, most+1, long(2001)))
	for _, op := range wrongOps() {
		l = append(l, rec(op, 258, ""), rec(op, 0, "ab"))
	}
	for _, id := range wrongIds() {
		l = append(l, rec(1, id, ""), rec(9, id, "ab"))
	}
	for _, n := range wrongSizes() {
		l = append(l, rec(1, 258, long(n)))
	}
	return l
}

func plainRight(r api.Rec) bool {
	return !(r.Op < 1 || r.Op > 9 || r.Id < 0 || r.Id >= 1<<48 || len(r.Data) > 2000)
}

// withSum is a text, and its sum behind it.
func withSum(s string) string {
	sum := crc32.Checksum([]byte(s), crc32.MakeTable(crc32.Castagnoli))
	return string(binary.BigEndian.AppendUint32([]byte(s), sum))
}

// ahead is what stands ahead of the data in a frame, of any numbers that have room.
func ahead(mark int, op int, id int, count int) string {
	b := []byte{byte(mark), byte(op)}
	b = append(b, binary.BigEndian.AppendUint64(nil, uint64(id))[2:]...)
	return string(binary.BigEndian.AppendUint16(b, uint16(count)))
}

// plainFrame is a record's frame as the chapter says it.
func plainFrame(r api.Rec) string { return withSum(ahead(0xe1, r.Op, r.Id, len(r.Data)) + r.Data) }

func plainLay(l []api.Rec) string {
	s := ""
	for _, r := range l {
		s += plainFrame(r)
	}
	return s
}

// plainDecode reads field by field, as the chapter says it.
func plainDecode(s string, at int) (api.Rec, int, bool) {
	if at < 0 || at > len(s) || len(s)-at < 14 || s[at] != 0xe1 || s[at+1] < 1 || s[at+1] > 9 {
		return api.Rec{}, 0, false
	}
	count := int(s[at+8])*256 + int(s[at+9])
	if count > 2000 || len(s)-at < 14+count {
		return api.Rec{}, 0, false
	}
	id := 0
	for _, b := range []byte(s[at+2 : at+8]) {
		id = id*256 + int(b)
	}
	end := at + 14 + count
	if withSum(s[at:end-4]) != s[at:end] {
		return api.Rec{}, 0, false
	}
	return rec(int(s[at+1]), id, s[at+10:end-4]), end, true
}

func plainScan(s string) ([]api.Rec, int) {
	var l []api.Rec
	at := 0
	for {
		r, behind, found := plainDecode(s, at)
		if !found {
			return l, at
		}
		l = append(l, r)
		at = behind
	}
}

// short is how a value is told, cut if it is very long.
func short(x any) string {
	text := fmt.Sprintf("%#v", x)
	return text[:min(len(text), 400)]
}

func wantRight(t *testing.T, r api.Rec, want bool) {
	t.Helper()
	if got := frame.Right(r); got != want {
		t.Errorf("Right(%s): %t", short(r), got)
	}
}

func wantEncode(t *testing.T, r api.Rec, want string, wrong api.Errno) {
	t.Helper()
	if s, e := frame.Encode(r); s != want || e != wrong {
		t.Errorf("Encode(%s): %s %d; wanted %s %d", short(r), short(s), e, short(want), wrong)
	}
}

func wantDecode(t *testing.T, s string, at int, want api.Rec, behind int) {
	t.Helper()
	if r, n, ok := frame.Decode(s, at); r != want || n != behind || !ok {
		t.Errorf("Decode(%s, %d): %s %d %t; wanted %s %d", short(s), at, short(r), n, ok, short(want), behind)
	}
}

func wantNone(t *testing.T, s string, at int) {
	t.Helper()
	if r, n, ok := frame.Decode(s, at); r != (api.Rec{}) || n != 0 || ok {
		t.Errorf("Decode(%s, %d): %s %d %t; wanted none", short(s), at, short(r), n, ok)
	}
}

func wantScan(t *testing.T, s string, want []api.Rec, behind int) {
	t.Helper()
	if l, n := frame.Scan(s); !slices.Equal(l, want) || n != behind {
		t.Errorf("Scan(%s): %d records, %d; wanted %d records, %d", short(s), len(l), n, len(want), behind)
	}
}

func wantLay(t *testing.T, l []api.Rec, want string, wrong api.Errno) {
	t.Helper()
	if s, e := frame.Lay(l); s != want || e != wrong {
		t.Errorf("Lay(%s): %s %d; wanted %s %d", short(l), short(s), e, short(want), wrong)
	}
}

// wantPlainDecode wants what the reference answers, and tells whether that is a record.
func wantPlainDecode(t *testing.T, s string, at int) bool {
	t.Helper()
	r, behind, found := plainDecode(s, at)
	if found {
		wantDecode(t, s, at, r, behind)
	} else {
		wantNone(t, s, at)
	}
	return found
}

// wantPlainScan wants what the reference answers, and tells how many records that are.
func wantPlainScan(t *testing.T, s string) int {
	t.Helper()
	l, behind := plainScan(s)
	wantScan(t, s, l, behind)
	return len(l)
}

// changed is a text with another byte at a place.
func changed(s string, at int, b byte) string { return s[:at] + string([]byte{b}) + s[at+1:] }

func TestExamples(t *testing.T) {
	want := "\xe1\x03\x00\x00\x00\x00\x01\x02\x00\x00\xfa\x99\x7b\x2d"
	wantEncode(t, rec(3, 258, ""), want, api.OK)
	wantDecode(t, want, 0, rec(3, 258, ""), 14)
	wantEncode(t, rec(9, most, "ab"), "\xe1\x09\xff\xff\xff\xff\xff\xff\x00\x02ab\xef\xb9\xa0\x70", api.OK)
}

// P17.1: each field at its edges, and beyond.
func TestRight(t *testing.T) {
	for op := -300; op <= 300; op++ {
		wantRight(t, rec(op, 258, "ab"), 1 <= op && op <= 9)
	}
	for _, id := range []int{0, 1, 258, 1 << 32, 1<<47 + 1, most - 1, most} {
		wantRight(t, rec(1, id, "ab"), true)
	}
	for n := range 2010 {
		wantRight(t, rec(9, 0, long(n)), n <= 2000)
	}
	for _, r := range rightRecords() {
		wantRight(t, r, true)
	}
	for _, r := range wrongRecords() {
		wantRight(t, r, false)
	}
	// Bytes are counted, not runes.
	wantRight(t, rec(1, 0, strings.Repeat("\u00e9", 1000)), true)
	wantRight(t, rec(1, 0, strings.Repeat("\u00e9", 1001)), false)
}

// P17.1: all kinds, ids of each width, and data of each size.
func TestEncode(t *testing.T) {
	for op := 1; op <= 9; op++ {
		for bits := range 49 {
			for _, id := range []int{1<<bits - 1, min(1<<bits, most), min(1<<bits+258, most)} {
				r := rec(op, id, "x")
				wantEncode(t, r, plainFrame(r), api.OK)
			}
		}
	}
	for n := range 2001 {
		r := rec(1, n, long(n))
		wantEncode(t, r, plainFrame(r), api.OK)
	}
	for b := range 256 {
		r := rec(2, b, string([]byte{byte(b)}))
		wantEncode(t, r, plainFrame(r), api.OK)
	}
}

func TestEncodeWrong(t *testing.T) {
	for _, r := range wrongRecords() {
		wantEncode(t, r, "", api.ErrFrame)
	}
}

// P17.1: a record is read wherever its frame stands, whatever stands around it.
func TestDecode(t *testing.T) {
	around := []string{"", "q", "\x00", "\xe1", "\xe1\x01", strings.Repeat("\xe1", 30), plainFrame(rec(1, 1, "x")), plainFrame(rec(1, 1, "x"))[:13], long(300)}
	for _, r := range rightRecords() {
		s := plainFrame(r)
		for _, front := range around {
			for _, back := range around {
				wantDecode(t, front+s+back, len(front), r, len(front)+len(s))
			}
		}
	}
	for n := range 2001 {
		r := rec(1, n, long(n))
		wantDecode(t, plainFrame(r)+"z", 0, r, 14+n)
	}
}

// P17.1: at all other places there is none, but where the data have frames in them.
func TestDecodeOtherPlaces(t *testing.T) {
	for _, r := range rightRecords() {
		s := "q" + plainFrame(r) + "\xe1"
		found := 0
		for at := range len(s) + 3 {
			if wantPlainDecode(t, s, at) {
				found++
			}
		}
		if inner := strings.Count(r.Data, "inner"); found != 1+inner {
			t.Errorf("%s: found at %d places", short(r), found)
		}
	}
	s := plainFrame(rec(1, 1, "x"))
	for _, at := range []int{math.MinInt, math.MinInt + 1, -1 << 32, -15, -14, -8, -2, -1, 15, 16, 1 << 32, 1 << 62, math.MaxInt - 14, math.MaxInt - 1, math.MaxInt} {
		wantNone(t, s, at)
		wantNone(t, "", at)
		// Read from behind a wrong place on, these would be a record's numbers.
		wantNone(t, strings.Repeat("\x01", 100), at)
		wantNone(t, s[1:], at)
	}
	wantNone(t, "", 0)
}

// P17.1: none stands where a byte is missing, also where those that are missing would be 0.
func TestDecodeCut(t *testing.T) {
	for _, r := range rightRecords() {
		s := plainFrame(r)
		for n := range len(s) {
			if n < 40 || n > len(s)-40 || n%97 == 0 {
				wantNone(t, s[:n], 0)
				wantNone(t, "q"+s[:n], 1)
				wantScan(t, s[:n], nil, 0)
			}
		}
	}
	noughts := 0
	for id := range 1 << 17 {
		s := plainFrame(rec(1, id, ""))
		if s[13] == 0 && noughts < 200 || s[12:] == "\x00\x00" {
			noughts++
			wantNone(t, s[:13], 0)
			wantNone(t, s[:12], 0)
			wantDecode(t, s, 0, rec(1, id, ""), 14)
		}
	}
	if noughts < 200 {
		t.Errorf("%d sums that end in a byte 0", noughts)
	}
}

// P17.1: a frame with another byte, at any place, is none.
func TestDecodeOtherBytes(t *testing.T) {
	for _, r := range recs(rec(3, 258, ""), rec(9, most, "ab"), rec(1, 0, long(60)), rec(2, 5, "\xe1\x00\xff"), rec(5, 77, long(300))) {
		s := plainFrame(r)
		for at := range len(s) {
			for b := range 256 {
				u := changed(s, at, byte(b))
				if found := wantPlainDecode(t, u+"\x00", 0); found != (u == s) {
					t.Errorf("%s with byte %d at %d: %t", short(r), b, at, found)
				}
				wantPlainScan(t, u)
			}
		}
	}
}

// P17.1: a right sum makes no frame of what no right record has.
func TestDecodeNoRightRecord(t *testing.T) {
	for mark := range 256 {
		s := withSum(ahead(mark, 1, 258, 2) + "ab")
		if found := wantPlainDecode(t, s, 0); found != (mark == 0xe1) {
			t.Errorf("mark %d: %t", mark, found)
		}
	}
	for op := range 256 {
		s := withSum(ahead(0xe1, op, 258, 2) + "ab")
		if found := wantPlainDecode(t, s, 0); found != (1 <= op && op <= 9) {
			t.Errorf("Op %d: %t", op, found)
		}
	}
	for _, n := range []int{0, 1, 255, 256, 1999, 2000, 2001, 2002, 2047, 2048, 2256, 4096, 1 << 15, 1<<16 - 1} {
		s := withSum(ahead(0xe1, 1, 258, n) + long(n))
		if found := wantPlainDecode(t, s+"z", 0); found != (n <= 2000) {
			t.Errorf("%d bytes: %t", n, found)
		}
		wantPlainScan(t, s)
	}
}

// P17.1: how many bytes the data have is told by their count alone.
func TestDecodeOtherCounts(t *testing.T) {
	for n := range 40 {
		for count := range 40 {
			s := withSum(ahead(0xe1, 1, 258, count) + long(n))
			if found := wantPlainDecode(t, s, 0); found != (n == count) {
				t.Errorf("%d bytes told as %d: %t", n, count, found)
			}
			wantNone(t, s[:10]+s[14:], 0)
		}
	}
}

// P17.1: the sum is that of all bytes ahead of it, of the one kind, the greatest part first.
func TestDecodeOtherSums(t *testing.T) {
	for _, r := range rightRecords() {
		s := plainFrame(r)
		body, sum := s[:len(s)-4], s[len(s)-4:]
		swapped := string([]byte{sum[3], sum[2], sum[1], sum[0]})
		other := string(binary.BigEndian.AppendUint32(nil, crc32.ChecksumIEEE([]byte(body))))
		late := withSum(body[1:])
		dataOnly := withSum(r.Data)
		for _, no := range []string{swapped, other, late[len(late)-4:], dataOnly[len(dataOnly)-4:], "\x00\x00\x00\x00", "\xff\xff\xff\xff", sum[2:] + sum[:2]} {
			wantNone(t, body+no, 0)
			wantNone(t, body+no+sum, 0)
			wantScan(t, body+no+sum, nil, 0)
		}
		wantNone(t, body+sum[:2]+"\x00\x00", 0)
		wantNone(t, body+sum[2:], 0)
		wantNone(t, body+"\x00"+sum, 0)
	}
}

// P17.2: lists of any records, and of any length.
func TestScanAndLay(t *testing.T) {
	wantLay(t, nil, "", api.OK)
	wantLay(t, recs(), "", api.OK)
	wantScan(t, "", nil, 0)
	all := rightRecords()
	for i, a := range all {
		wantLay(t, recs(a), plainFrame(a), api.OK)
		for k, b := range all {
			for _, l := range [][]api.Rec{recs(a, b), recs(a, a, b), all[min(i, k):max(i, k)]} {
				s := plainLay(l)
				wantLay(t, l, s, api.OK)
				wantScan(t, s, l, len(s))
			}
		}
	}
	for n := range 100 {
		var l []api.Rec
		for i := range n {
			l = append(l, rec(1+i%9, i*i, long(i)))
		}
		s := plainLay(l)
		wantLay(t, l, s, api.OK)
		wantScan(t, s, l, len(s))
	}
}

// P17.2: one that is wrong, at any place, leaves nothing of the others.
func TestLayWrong(t *testing.T) {
	for i, wrong := range wrongRecords() {
		wantLay(t, recs(wrong), "", api.ErrFrame)
		for count := 2; count <= 4+i%3; count++ {
			for place := range count {
				l := slices.Repeat(recs(rec(1, 5, "x")), count)
				l[place] = wrong
				wantLay(t, l, "", api.ErrFrame)
				l[count-1-place] = wrong
				wantLay(t, l, "", api.ErrFrame)
			}
		}
	}
}

// P17.2: what stands behind the first place at which none stands is not scanned.
func TestScanLeavesAtTheFirst(t *testing.T) {
	l := recs(rec(1, 5, "x"), rec(2, 5, ""), rec(3, 6, "\xe1"), rec(9, most, long(70)), rec(4, 7, "yy"))
	for k := range l {
		front, s, back := plainLay(l[:k]), plainFrame(l[k]), plainLay(l[k+1:])
		for at := range len(s) {
			u := front + changed(s, at, s[at]^0x10) + back
			wantScan(t, u, l[:k], len(front))
			wantScan(t, front+s[:at]+s[at+1:]+back, l[:k], len(front))
		}
		for _, between := range []string{"\x00", "\xe1", "\xe1\x01", "a", "\xe1\x01\x00\x00\x00\x00\x00\x05\x00\x01x", withSum(ahead(0xe1, 0, 5, 0)), withSum(ahead(0xe1, 10, 5, 0)), withSum(ahead(0xe1, 1, 5, 2001) + long(2001))} {
			wantScan(t, front+between+s+back, l[:k], len(front))
		}
	}
}

// P17.3: whatever begins with another byte than e1 may stand behind frames.
func TestScanWithARest(t *testing.T) {
	for _, l := range [][]api.Rec{nil, recs(rec(1, 5, "x")), recs(rec(1, 5, "x"), rec(2, 5, "")), rightRecords()} {
		s := plainLay(l)
		for b := range 256 {
			first := string([]byte{byte(b)})
			for _, more := range []string{"", "\x00", "\xe1", plainFrame(rec(1, 5, "x")), plainFrame(rec(1, 5, "x"))[1:], long(100), strings.Repeat("\x00", 64)} {
				if b != 0xe1 {
					wantScan(t, s+first+more, l, len(s))
				} else {
					wantPlainScan(t, s+first+more)
				}
			}
		}
	}
}

// P17.3: of a text that is cut just the whole frames are scanned, wherever it is cut.
func TestScanCut(t *testing.T) {
	l := append(rightRecords(), rec(1, 1, ""), rec(1, 2, ""), rec(1, 1, ""))
	slices.SortStableFunc(l, func(a api.Rec, b api.Rec) int { return len(a.Data)%7 - len(b.Data)%7 })
	s := plainLay(l)
	whole, end, next := 0, 0, len(plainFrame(l[0]))
	for n := range len(s) + 1 {
		if n == next {
			whole, end = whole+1, next
			if whole < len(l) {
				next += len(plainFrame(l[whole]))
			}
		}
		wantScan(t, s[:n], l[:whole], end)
	}
	if whole != len(l) {
		t.Errorf("%d frames are whole", whole)
	}
}

func pick[T any](r *rand.Rand, list ...T) T { return list[r.Intn(len(list))] }

func randomRecord(r *rand.Rand) api.Rec {
	data := make([]byte, pick(r, 0, 0, 1, 2, 3, r.Intn(40), r.Intn(300), r.Intn(2001), 2000))
	r.Read(data)
	return rec(1+r.Intn(9), pick(r, 0, 1, r.Intn(300), r.Intn(most+1), most), string(data))
}

// randomText is put together of frames, and of what looks like some.
func randomText(r *rand.Rand) string {
	s := ""
	for range r.Intn(6) {
		x := plainFrame(randomRecord(r))
		switch r.Intn(12) {
		case 0:
			x = changed(x, r.Intn(len(x)), byte(r.Intn(256)))
		case 1:
			x = x[:r.Intn(len(x))]
		case 2:
			x = withSum(ahead(pick(r, 0xe1, 0xe1, 0xe0), r.Intn(12), r.Intn(most+1), 3) + long(pick(r, 3, 3, 2)))
		case 3:
			x = pick(r, "\x00", "\xe1", "a", "")
		}
		s += x
	}
	return s
}

func TestRandomTexts(t *testing.T) {
	r := rand.New(rand.NewSource(173))
	told := map[int]int{}
	for range 20000 {
		s := randomText(r)
		told[wantPlainScan(t, s)]++
		wantPlainDecode(t, s, r.Intn(len(s)+1))
		for at := range min(len(s), 20) {
			wantPlainDecode(t, s, at)
		}
	}
	for n := range 6 {
		if told[n] < 300 {
			t.Errorf("too few texts of %d frames: %v", n, told)
		}
	}
}

func TestRandomLists(t *testing.T) {
	r := rand.New(rand.NewSource(172))
	for range 3000 {
		var l []api.Rec
		for range r.Intn(8) {
			l = append(l, randomRecord(r))
		}
		s := plainLay(l)
		wantLay(t, l, s, api.OK)
		wantScan(t, s, l, len(s))
		wantScan(t, s+pick(r, "", "\x00", "a"+s), l, len(s))
	}
}

// R1: very much is gone through, too.
func TestMuch(t *testing.T) {
	var l []api.Rec
	for i := range 1 << 18 {
		l = append(l, rec(1+i%9, i, strconv.Itoa(i)))
	}
	s, e := frame.Lay(l)
	if e != api.OK {
		t.Fatalf("error %d", e)
	}
	wantScan(t, s, l, len(s))
	wantScan(t, s+strings.Repeat("\x00", 1<<24), l, len(s))
	wantScan(t, s[:len(s)-1], l[:len(l)-1], len(s)-14-6)
	wantNone(t, s, 1)
	wantNone(t, strings.Repeat("\xe1", 1<<24), 1<<23)
	wantLay(t, append(l, rec(0, 0, "")), "", api.ErrFrame)
	wantEncode(t, rec(1, 1, strings.Repeat("a", 1<<26)), "", api.ErrFrame)
	wantScan(t, strings.Repeat("\xe1", 1<<24), nil, 0)
	wantScan(t, strings.Repeat("\x00", 1<<24), nil, 0)
}

// R3: what is handed in stays, its spare room too; what is answered is new.
func TestLists(t *testing.T) {
	room := slices.Repeat(recs(rec(1, 5, "x")), 8)
	l := room[:3]
	l[1] = rec(2, 6, "yy")
	before := slices.Clone(room)
	s, _ := frame.Lay(l)
	wantLay(t, l, plainLay(before[:3]), api.OK)
	room[5].Op = 0
	wantLay(t, l, s, api.OK)
	room[5].Op = 1
	if !slices.Equal(room, before) {
		t.Errorf("what was handed in is now %v", room)
	}
	a, _ := frame.Scan(s)
	b, _ := frame.Scan(s)
	a = append(a, rec(9, 9, ""))
	for i := range a {
		a[i] = rec(9, 9, "")
	}
	b = append(b, rec(8, 8, ""))
	if !slices.Equal(b[:3], l) || b[3] != rec(8, 8, "") || a[3] != rec(9, 9, "") {
		t.Errorf("scanned %v and %v", a, b)
	}
	wantScan(t, s, l, len(s))
}

// R4: what is answered hangs on what is handed in alone.
func TestAgain(t *testing.T) {
	s := plainLay(rightRecords())
	for range 3 {
		wantNone(t, s, 1)
		wantScan(t, s, rightRecords(), len(s))
		wantEncode(t, rec(0, 0, ""), "", api.ErrFrame)
		wantDecode(t, s, 0, rec(3, 258, ""), 14)
		wantLay(t, rightRecords(), s, api.OK)
	}
}
