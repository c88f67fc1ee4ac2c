package crc_test

import (
	"encoding/binary"
	"hash/crc32"
	"math"
	"math/bits"
	"math/rand"
	"slices"
	"strings"
	"testing"

	"postrider/api"
	"postrider/crc"
)

// wideKinds are those that have a register.
func wideKinds() []int { return []int{api.Sum16, api.Sum32} }

// noKinds are no kinds of sums at all; some are one modulo a power of two.
func noKinds() []int {
	return []int{math.MinInt, math.MinInt + 1, -1 << 32, -256, -2, -1, 3, 4, 16, 32, 255, 256, 257, 258, 65537, 1 << 32, 1<<32 + 1, 1<<32 + 2, math.MaxInt - 1, math.MaxInt}
}

func noSizes() []int { return []int{0, 1, 2, 128, 254, 255, 257, 258, 511, 512, 65536} }

func width(kind int) int { return 16 * kind }

// texts are short and long ones, of all bytes.
func texts() []string {
	all := make([]byte, 256)
	for i := range all {
		all[i] = byte(i)
	}
	l := []string{"", "a", "ab", "ba", "123456789", "\x00", "\x00\x00", "\xff", "\xff\xff", "\xff\xff\xff\xff", "\xff\xff\xff\xff\xff", "\xc3\xa4\xe2\x82\xac", "\xed\xa0\x80", string(all)}
	r := rand.New(rand.NewSource(5))
	for n := 1; n <= 70000; n = n*3/2 + 1 {
		b := make([]byte, n)
		r.Read(b)
		l = append(l, string(b))
	}
	for b := range 256 {
		l = append(l, string([]byte{byte(b)}))
	}
	return l
}

// tables are some of no kind, with numbers beyond 16 bits too.
func tables() [][]uint32 {
	low, high, ones, some := make([]uint32, 256), make([]uint32, 256), make([]uint32, 256), make([]uint32, 256)
	r := rand.New(rand.NewSource(55))
	for i := range 256 {
		low[i], high[i], ones[i], some[i] = uint32(i), uint32(i)*0x10001, math.MaxUint32, r.Uint32()
	}
	return [][]uint32{make([]uint32, 256), low, high, ones, some}
}

// plainPart is the part of a byte as the chapter says it, in whole numbers.
func plainPart(kind int, b int) uint64 {
	turned := map[int]uint64{api.Sum16: 0x8408, api.Sum32: 0x82f63b78}[kind]
	n := uint64(b)
	for range 8 {
		if odd := n % 2; odd == 1 {
			n = n/2 ^ turned
		} else {
			n = n / 2
		}
	}
	return n
}

func plainTable(kind int) []uint32 {
	var l []uint32
	for b := range 256 {
		l = append(l, uint32(plainPart(kind, b)))
	}
	return l
}

// plainSum is the sum by a table as the chapter says it, in whole numbers.
func plainSum(kind int, table []uint32, s string) uint32 {
	all := uint64(1)<<width(kind) - 1
	n := all
	for i := range len(s) {
		n = n/256 ^ uint64(table[n%256^uint64(s[i])])%(all+1)
	}
	return uint32(all - n)
}

// plainBits is the sum by the kind's own table, without any: bit by bit.
func plainBits(kind int, s string) uint32 {
	turned := map[int]uint64{api.Sum16: 0x8408, api.Sum32: 0x82f63b78}[kind]
	all := uint64(1)<<width(kind) - 1
	n := all
	for i := range len(s) {
		for bit := range 8 {
			odd := n&1 ^ uint64(s[i]>>bit&1)
			n = n>>1 ^ odd*turned
		}
	}
	return uint32(all - n)
}

// plainOf are a sum's bytes, worked out by the library.
func plainOf(kind int, s string) string {
	switch kind {
	case api.Sum16:
		return string(binary.BigEndian.AppendUint16(nil, uint16(plainBits(kind, s))))
	case api.Sum32:
		return string(binary.BigEndian.AppendUint32(nil, plainBits(kind, s)))
	}
	return ""
}

func wantTable(t *testing.T, kind int, want []uint32, wantErr api.Errno) {
	t.Helper()
	if l, e := crc.Table(kind); !slices.Equal(l, want) || e != wantErr {
		t.Errorf("Table(%d) = %x, %d; want %x, %d", kind, l, e, want, wantErr)
	}
}

func wantSum(t *testing.T, kind int, table []uint32, s string, want uint32, wantErr api.Errno) {
	t.Helper()
	if n, e := crc.Sum(kind, table, s); n != want || e != wantErr {
		t.Errorf("Sum(%d, of %d, of %d bytes) = %x, %d; want %x, %d", kind, len(table), len(s), n, e, want, wantErr)
	}
}

func wantOf(t *testing.T, kind int, s string, want string, wantErr api.Errno) {
	t.Helper()
	if got, e := crc.Of(kind, s); got != want || e != wantErr {
		t.Errorf("Of(%d, of %d bytes) = %x, %d; want %x, %d", kind, len(s), got, e, want, wantErr)
	}
}

func wantSize(t *testing.T, kind int, want int) {
	t.Helper()
	if n := crc.Size(kind); n != want {
		t.Errorf("Size(%d) = %d; want %d", kind, n, want)
	}
}

// own is a kind's own table, which it must have.
func own(t *testing.T, kind int) []uint32 {
	t.Helper()
	l, e := crc.Table(kind)
	if len(l) != 256 || e != api.OK {
		t.Fatalf("Table(%d): %d numbers, error %d", kind, len(l), e)
	}
	return l
}

// P5.1

func TestSumsOfTheChapter(t *testing.T) {
	wantOf(t, api.Sum16, "123456789", "\x90\x6e", api.OK)
	wantOf(t, api.Sum32, "123456789", "\xe3\x06\x92\x83", api.OK)
	wantSum(t, api.Sum16, own(t, api.Sum16), "123456789", 0x906e, api.OK)
	wantSum(t, api.Sum32, own(t, api.Sum32), "123456789", 0xe3069283, api.OK)
}

func TestTable(t *testing.T) {
	for _, kind := range wideKinds() {
		wantTable(t, kind, plainTable(kind), api.OK)
	}
	wantTable(t, api.Sum32, crc32.MakeTable(crc32.Castagnoli)[:], api.OK)
}

func TestTableAtSomePlaces(t *testing.T) {
	a, b := own(t, api.Sum16), own(t, api.Sum32)
	for _, x := range []struct {
		place int
		a, b  uint32
	}{{0, 0, 0}, {1, 0x1189, 0xf26b8303}, {128, 0x8408, 0x82f63b78}, {255, 0x0f78, 0xad7d5351}} {
		if a[x.place] != x.a || b[x.place] != x.b {
			t.Errorf("at %d: %x, %x; want %x, %x", x.place, a[x.place], b[x.place], x.a, x.b)
		}
	}
}

func TestTableOfNoKind(t *testing.T) {
	wantTable(t, api.NoSum, nil, api.ErrArg)
	for _, kind := range noKinds() {
		wantTable(t, kind, nil, api.ErrArg)
	}
}

func TestSumByOwnTable(t *testing.T) {
	castagnoli := crc32.MakeTable(crc32.Castagnoli)
	for _, s := range texts() {
		for _, kind := range wideKinds() {
			wantSum(t, kind, own(t, kind), s, plainBits(kind, s), api.OK)
		}
		wantSum(t, api.Sum32, own(t, api.Sum32), s, crc32.Checksum([]byte(s), castagnoli), api.OK)
	}
}

func TestSumByOtherTables(t *testing.T) {
	list := append(tables(), own(t, api.Sum16), own(t, api.Sum32))
	for _, s := range texts() {
		for _, table := range list {
			for _, kind := range wideKinds() {
				wantSum(t, kind, table, s, plainSum(kind, table, s), api.OK)
			}
		}
	}
}

func TestSumByHand(t *testing.T) {
	none := make([]uint32, 256)
	wantSum(t, api.Sum16, none, "", 0, api.OK)
	wantSum(t, api.Sum16, none, "a", 0xff00, api.OK)
	wantSum(t, api.Sum16, none, "ab", 0xffff, api.OK)
	wantSum(t, api.Sum32, none, "", 0, api.OK)
	wantSum(t, api.Sum32, none, "a", 0xff000000, api.OK)
	wantSum(t, api.Sum32, none, "abcd", 0xffffffff, api.OK)
	// The place is 9e: the lower bits of ff and 61 together.
	one := make([]uint32, 256)
	one[0x9e] = 0xabcd1234
	wantSum(t, api.Sum16, one, "a", 0xffff-(0x00ff^0x1234), api.OK)
	wantSum(t, api.Sum32, one, "a", 0xffffffff-(0x00ffffff^0xabcd1234), api.OK)
}

// A table's numbers count modulo 65536 for kind 1.
func TestUpperBitsOfATableDoNotCountInKind1(t *testing.T) {
	low := own(t, api.Sum16)
	high := slices.Clone(low)
	for i := range high {
		high[i] += uint32(i+1) * 0x10000
	}
	for _, s := range texts() {
		a, e := crc.Sum(api.Sum16, low, s)
		if e != api.OK {
			t.Errorf("error %d", e)
		}
		wantSum(t, api.Sum16, high, s, a, api.OK)
		if a > 0xffff {
			t.Errorf("%x has more than 16 bits", a)
		}
	}
}

func TestSumOfNoTable(t *testing.T) {
	for _, kind := range wideKinds() {
		for _, s := range []string{"", "a", "123456789"} {
			wantSum(t, kind, nil, s, 0, api.ErrTable)
			wantSum(t, kind, []uint32{}, s, 0, api.ErrTable)
			for _, n := range noSizes() {
				wantSum(t, kind, make([]uint32, n), s, 0, api.ErrTable)
				// What stands in spare room is not in the table.
				wantSum(t, kind, make([]uint32, n, n+256), s, 0, api.ErrTable)
			}
		}
	}
}

func TestSumTellsTheKindFirst(t *testing.T) {
	for _, kind := range append(noKinds(), api.NoSum) {
		for _, s := range []string{"", "a", "123456789"} {
			wantSum(t, kind, nil, s, 0, api.ErrArg)
			for _, n := range append(noSizes(), 256) {
				wantSum(t, kind, make([]uint32, n), s, 0, api.ErrArg)
			}
		}
	}
}

func TestOf(t *testing.T) {
	for _, s := range texts() {
		for _, kind := range wideKinds() {
			wantOf(t, kind, s, plainOf(kind, s), api.OK)
		}
	}
	wantOf(t, api.Sum16, "", "\x00\x00", api.OK)
	wantOf(t, api.Sum32, "", "\x00\x00\x00\x00", api.OK)
	wantOf(t, api.Sum32, strings.Repeat("\x00", 32), "\x8a\x91\x36\xaa", api.OK)
	wantOf(t, api.Sum32, strings.Repeat("\xff", 32), "\x62\xa8\xab\x43", api.OK)
}

func TestOfNoSum(t *testing.T) {
	for _, s := range texts() {
		wantOf(t, api.NoSum, s, "", api.OK)
	}
}

func TestOfNoKind(t *testing.T) {
	for _, kind := range noKinds() {
		for _, s := range []string{"", "a", "123456789"} {
			wantOf(t, kind, s, "", api.ErrArg)
		}
	}
}

// A sum that begins with noughts has as many bytes as any other.
func TestOfSmallSums(t *testing.T) {
	small := map[int]int{}
	for n := range 1 << 16 {
		s := string([]byte{byte(n >> 8), byte(n)})
		for _, kind := range wideKinds() {
			got, e := crc.Of(kind, s)
			if e != api.OK || len(got) != crc.Size(kind) {
				t.Fatalf("Of(%d, %x) = %x, %d", kind, s, got, e)
			}
			if got[0] == 0 {
				small[kind]++
			}
		}
	}
	if small[api.Sum16] != 256 || small[api.Sum32] == 0 {
		t.Errorf("sums that begin with noughts: %v", small)
	}
}

func TestSize(t *testing.T) {
	wantSize(t, api.NoSum, 0)
	wantSize(t, api.Sum16, 2)
	wantSize(t, api.Sum32, 4)
	for _, kind := range noKinds() {
		wantSize(t, kind, 0)
	}
}

// A table that was answered is new memory, spare room too (R3), and what is done to it changes no later answer (R4).
func TestTableIsNewMemory(t *testing.T) {
	for _, kind := range wideKinds() {
		a := own(t, kind)
		b := own(t, kind)
		for i := range a[:cap(a)] {
			a[:cap(a)][i] = 0xdeadbeef
		}
		if !slices.Equal(b, plainTable(kind)) {
			t.Errorf("kind %d: two tables share memory", kind)
		}
		wantTable(t, kind, plainTable(kind), api.OK)
		wantOf(t, kind, "123456789", plainOf(kind, "123456789"), api.OK)
	}
}

// What is handed in is not written into, nor its spare room (R3).
func TestSumLeavesTheTable(t *testing.T) {
	for _, kind := range wideKinds() {
		for _, n := range []int{0, 255, 256, 257} {
			room := make([]uint32, 300)
			for i := range room {
				room[i] = uint32(i) * 0x01020304
			}
			was := slices.Clone(room)
			crc.Sum(kind, room[:n], "bundle")
			if !slices.Equal(room, was) {
				t.Errorf("kind %d: a table of %d was written into", kind, n)
			}
		}
	}
}

// P5.2

// turned is s with those bits turned that are 1 in pattern, from the bit at on: a sum takes the bits of a byte from the lowest one on, so these are beside each other.
func turned(s string, at int, pattern uint64) string {
	b := []byte(s)
	for ; pattern > 0; pattern >>= 1 {
		if pattern&1 == 1 {
			b[at/8] ^= 1 << (at % 8)
		}
		at++
	}
	return string(b)
}

func sum(t *testing.T, kind int, s string) uint64 {
	t.Helper()
	got, e := crc.Of(kind, s)
	if e != api.OK || len(got) != width(kind)/8 {
		t.Fatalf("Of(%d, ..) = %x, %d", kind, got, e)
	}
	return binary.BigEndian.Uint64(append(make([]byte, 8-len(got)), got...))
}

func TestOneOtherByteIsAnotherSum(t *testing.T) {
	for _, s := range []string{"a", "123456789", "\x00\x00\x00\x00\x00\x00\x00", "\xff\xff\xff\xff\xff"} {
		for _, kind := range wideKinds() {
			was := sum(t, kind, s)
			for at := range len(s) {
				for other := 1; other < 256; other++ {
					if sum(t, kind, turned(s, 8*at, uint64(other))) == was {
						t.Errorf("kind %d: %q with byte %d turned by %x has the same sum", kind, s, at, other)
					}
				}
			}
		}
	}
}

// All patterns of 16 bits, at all places within a byte.
func TestTurnedBitsAreAnotherSumOfKind1(t *testing.T) {
	s, table := "\x01\xfe\x80\x55", own(t, api.Sum16)
	was, _ := crc.Sum(api.Sum16, table, s)
	for at := 0; at+16 <= 8*len(s); at++ {
		for pattern := uint64(1); pattern < 1<<16; pattern++ {
			if n, e := crc.Sum(api.Sum16, table, turned(s, at, pattern)); n == was || e != api.OK {
				t.Fatalf("bits %b turned at %d: the same sum %x, %d", pattern, at, n, e)
			}
		}
	}
}

func TestTurnedBitsAreAnotherSum(t *testing.T) {
	r := rand.New(rand.NewSource(52))
	for _, kind := range wideKinds() {
		for range 20000 {
			b := make([]byte, width(kind)/8+r.Intn(40))
			r.Read(b)
			at := r.Intn(8*len(b) - width(kind) + 1)
			pattern := r.Uint64() >> (64 - 1 - r.Intn(width(kind)))
			s := string(b)
			if pattern != 0 && sum(t, kind, s) == sum(t, kind, turned(s, at, pattern)) {
				t.Errorf("kind %d: %x with bits %b turned at %d has the same sum", kind, s, at, pattern)
			}
		}
	}
}

// changes tells how a sum changes if one bit alone is turned, for each bit from at on.
func changes(t *testing.T, kind int, s string, at int) []uint64 {
	t.Helper()
	was := sum(t, kind, s)
	var l []uint64
	for i := range width(kind) {
		l = append(l, was^sum(t, kind, turned(s, at+i, 1)))
	}
	return l
}

// rank is how many of the numbers are no others put together by exclusive or.
func rank(l []uint64) int {
	heads := map[int]uint64{}
	for _, n := range l {
		for n != 0 {
			top := bits.Len64(n)
			other, found := heads[top]
			if !found {
				heads[top] = n
				break
			}
			n ^= other
		}
	}
	return len(heads)
}

// Turned bits change a sum by the exclusive or of what each of them changes: if none of these is others put together, no pattern leaves it.
func TestNoPatternOfAWidthLeavesASum(t *testing.T) {
	r := rand.New(rand.NewSource(520))
	for _, kind := range wideKinds() {
		for _, n := range []int{width(kind) / 8, 9, 40, 600, 2000} {
			b := make([]byte, n)
			r.Read(b)
			s := string(b)
			last := 8*n - width(kind)
			for _, at := range []int{0, min(1, last), min(7, last), min(8, last), r.Intn(last + 1), last} {
				l := changes(t, kind, s, at)
				if got := rank(l); got != width(kind) {
					t.Errorf("kind %d, %d bytes, at %d: rank %d", kind, n, at, got)
				}
				pattern := r.Uint64() >> (64 - width(kind))
				together := uint64(0)
				for i, n := range l {
					together ^= n * (pattern >> i & 1)
				}
				if got := sum(t, kind, s) ^ sum(t, kind, turned(s, at, pattern)); got != together {
					t.Errorf("kind %d, %d bytes, bits %b at %d: the sum changes by %x, not by %x", kind, n, pattern, at, got, together)
				}
			}
		}
	}
}
