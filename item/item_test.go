package item_test

import (
	"encoding/binary"
	"math"
	"slices"
	"strings"
	"testing"

	"postrider/api"
	"postrider/item"
)

func num(n int) api.Item { return api.Item{Kind: api.Number, N: n} }

func bytesOf(s string) api.Item { return api.Item{Kind: api.Bytes, S: s} }

func textOf(s string) api.Item { return api.Item{Kind: api.Text, S: s} }

func list(l ...api.Item) api.Item { return api.Item{Kind: api.List, L: l} }

// nested is an item in as many lists, one in the other.
func nested(lists int, x api.Item) api.Item {
	for range lists {
		x = list(x)
	}
	return x
}

func many(n int, x api.Item) []api.Item { return slices.Repeat([]api.Item{x}, n) }

func oneByte(b int) string { return string([]byte{byte(b)}) }

// plainHead are the bytes of a head, as chapter 3 says them.
func plainHead(major int, n int) string {
	first := byte(32 * major)
	switch {
	case n < 24:
		return string([]byte{first + byte(n)})
	case n < 1<<8:
		return string([]byte{first + 24, byte(n)})
	case n < 1<<16:
		return string(binary.BigEndian.AppendUint16([]byte{first + 25}, uint16(n)))
	case n < 1<<32:
		return string(binary.BigEndian.AppendUint32([]byte{first + 26}, uint32(n)))
	}
	return string(binary.BigEndian.AppendUint64([]byte{first + 27}, uint64(n)))
}

// plainBytes are those of an item, as the chapter says them.
func plainBytes(x api.Item) string {
	switch x.Kind {
	case api.Number:
		return plainHead(api.Number, x.N)
	case api.Bytes, api.Text:
		return plainHead(x.Kind, len(x.S)) + x.S
	}
	s := plainHead(api.List, len(x.L))
	for _, y := range x.L {
		s += plainBytes(y)
	}
	return s
}

func plainDepth(x api.Item) int {
	deepest := 0
	for _, y := range x.L {
		deepest = max(deepest, plainDepth(y))
	}
	return deepest + 1
}

func plainCount(x api.Item) int {
	count := 1
	for _, y := range x.L {
		count += plainCount(y)
	}
	return count
}

func allLetters(s string) bool {
	return !slices.ContainsFunc([]byte(s), func(b byte) bool { return b < ' ' || b > '~' })
}

func plainFields(x api.Item) bool {
	for _, y := range x.L {
		if !plainFields(y) {
			return false
		}
	}
	switch x.Kind {
	case 0:
		return x.N >= 0 && x.N < 1<<48 && len(x.S) == 0 && len(x.L) == 0
	case 2:
		return x.N == 0 && len(x.S) <= 600 && len(x.L) == 0
	case 3:
		return x.N == 0 && len(x.S) <= 600 && len(x.L) == 0 && allLetters(x.S)
	case 4:
		return x.N == 0 && len(x.S) == 0
	}
	return false
}

func letters() string {
	s := ""
	for b := 0x20; b <= 0x7e; b++ {
		s += oneByte(b)
	}
	return s
}

// plainRight is what the chapter says of a right item: not for those that have more in them than can be gone through.
func plainRight(x api.Item) bool { return plainFields(x) && plainDepth(x) <= 6 && plainCount(x) <= 60 }

// plainDecode is how the chapter says that a head is read.
func plainDecode(s string, at int) (int, int, int, api.Errno) {
	if at < 0 || at >= len(s) {
		return 0, 0, 0, api.ErrShort
	}
	major, added := int(s[at])/32, int(s[at])%32
	if major == 1 || major > 4 || added > 27 {
		return 0, 0, 0, api.ErrForm
	}
	at++
	if added < 24 {
		return major, added, at, api.OK
	}
	width := 1 << (added - 24)
	if at+width > len(s) {
		return 0, 0, 0, api.ErrShort
	}
	n := binary.BigEndian.Uint64([]byte(strings.Repeat("\x00", 8-width) + s[at:at+width]))
	switch {
	case n > 281474976710655:
		return 0, 0, 0, api.ErrNum
	case len(plainHead(major, int(n))) <= width:
		return 0, 0, 0, api.ErrForm
	}
	return major, int(n), at + width, api.OK
}

// plainRead is how the chapter says that an item is read, which stands so deep, behind so many others.
func plainRead(s string, at int, deep int, before *int) (api.Item, int, api.Errno) {
	if *before == 60 || deep == 7 {
		return api.Item{}, 0, api.ErrItem
	}
	*before++
	major, n, at, e := plainDecode(s, at)
	if e != api.OK {
		return api.Item{}, 0, e
	}
	switch major {
	case 0:
		return num(n), at, api.OK
	case 4:
		x := list()
		for range n {
			var y api.Item
			if y, at, e = plainRead(s, at, deep+1, before); e != api.OK {
				return api.Item{}, 0, e
			}
			x.L = append(x.L, y)
		}
		return x, at, api.OK
	}
	if n > 600 {
		return api.Item{}, 0, api.ErrItem
	}
	if n > len(s)-at {
		return api.Item{}, 0, api.ErrShort
	}
	part := s[at : at+n]
	if major == 3 && !allLetters(part) {
		return api.Item{}, 0, api.ErrForm
	}
	return api.Item{Kind: major, S: part}, at + n, api.OK
}

// equal is what the chapter says of Same.
func equal(a api.Item, b api.Item) bool {
	return a.Kind == b.Kind && a.N == b.N && a.S == b.S && slices.EqualFunc(a.L, b.L, equal)
}

func isZero(x api.Item) bool { return x.Kind == 0 && x.N == 0 && x.S == "" && len(x.L) == 0 }

// short keeps what is told of long texts readable.
func short(s string) string { return s[:min(len(s), 40)] }

func wantRight(t *testing.T, x api.Item) {
	t.Helper()
	want := plainBytes(x)
	if !item.Right(x) {
		t.Errorf("Right says no to what has the bytes %x", short(want))
	}
	if s, e := item.Encode(x); s != want || e != api.OK {
		t.Errorf("Encode = %x, %d; want %x", short(s), e, short(want))
	}
}

func wantWrong(t *testing.T, what string, x api.Item) {
	t.Helper()
	if item.Right(x) {
		t.Errorf("%s: Right says yes", what)
	}
	if s, e := item.Encode(x); s != "" || e != api.ErrItem {
		t.Errorf("%s: Encode = %x, %d; want ErrItem", what, short(s), e)
	}
}

func wantDecode(t *testing.T, s string, at int, want api.Item, behind int) {
	t.Helper()
	if x, place, e := item.Decode(s, at); !equal(x, want) || place != behind || e != api.OK {
		t.Errorf("Decode(%x, %d) = %v, %d, %d; want %v, %d", short(s), at, x, place, e, want, behind)
	}
}

func wantRefused(t *testing.T, s string, at int, want api.Errno) {
	t.Helper()
	if x, place, e := item.Decode(s, at); !isZero(x) || place != 0 || e != want {
		t.Errorf("Decode(%x, %d) = %v, %d, %d; want the error %d", short(s), at, x, place, e, want)
	}
}

// wantRefusedAll wants the error from any place on, and of Whole.
func wantRefusedAll(t *testing.T, s string, want api.Errno) {
	t.Helper()
	wantRefused(t, s, 0, want)
	wantRefused(t, "\xff\x81"+s, 2, want)
	if x, e := item.Whole(s); !isZero(x) || e != want {
		t.Errorf("Whole(%x) = %v, %d; want the error %d", short(s), x, e, want)
	}
}

// wantPlain holds Decode and Whole against what the chapter says, and what is decoded against its bytes.
func wantPlain(t *testing.T, s string, at int) {
	t.Helper()
	before := 0
	want, behind, e := plainRead(s, at, 1, &before)
	if e != api.OK {
		wantRefused(t, s, at, e)
	} else {
		wantDecode(t, s, at, want, behind)
		if u, e := item.Encode(want); u != s[at:behind] || e != api.OK {
			t.Errorf("what is decoded from %x has the bytes %x, %d", short(s[at:behind]), short(u), e)
		}
	}
	if at != 0 {
		return
	}
	if e == api.OK && behind != len(s) {
		want, e = api.Item{}, api.ErrForm
	}
	if x, f := item.Whole(s); !equal(x, want) || f != e {
		t.Errorf("Whole(%x) = %v, %d; want %v, %d", short(s), x, f, want, e)
	}
}

// rightItems are of all kinds, with the edges of each.
func rightItems() []api.Item {
	l := []api.Item{list(), list(num(1), textOf("//a/b")), list(list(), list(list(), bytesOf("\x00")), num(24))}
	for _, n := range []int{0, 1, 23, 24, 255, 256, 65535, 65536, 1<<32 - 1, 1 << 32, api.MaxNum - 1, api.MaxNum} {
		l = append(l, num(n))
	}
	for _, n := range []int{0, 1, 23, 24, 95, 255, 256, 599, 600} {
		l = append(l, bytesOf(strings.Repeat("\xff", n)), textOf(strings.Repeat("~", n)))
	}
	for n := range 6 {
		l = append(l, nested(n, num(7)), nested(n, list()), nested(n, bytesOf("\x00\x80")), nested(n, textOf(" ~")))
		l = append(l, list(num(1), nested(min(n, 4), textOf("a")), num(2)))
	}
	for _, n := range []int{1, 22, 23, 24, 25, 58, 59} {
		l = append(l, list(many(n, num(0))...), list(many(n, list())...), list(many(n, bytesOf(strings.Repeat("a", 600)))...))
	}
	l = append(l, list(many(29, list(textOf("x")))...), list(list(many(28, num(300))...), num(1), list(many(28, list())...)))
	l = append(l, textOf(letters()), bytesOf("\x00\x1f\x20\x7e\x7f\x80\xff\n"))
	return l
}

// cyclic is an item that has itself in it, as often as told.
func cyclic(kind int, times int) api.Item {
	x := api.Item{Kind: kind, L: make([]api.Item, times)}
	for i := range x.L {
		x.L[i] = x
	}
	return x
}

// P4.1

func TestItemOfTheChapter(t *testing.T) {
	x, want := list(num(1), textOf("//a/b")), "\x82\x01\x65//a/b"
	if s, e := item.Encode(x); s != want || e != api.OK {
		t.Errorf("%x, %d", s, e)
	}
	wantDecode(t, want, 0, x, len(want))
}

func TestRightItems(t *testing.T) {
	for _, x := range rightItems() {
		if !plainRight(x) {
			t.Fatalf("%v is none to test with", x)
		}
		wantRight(t, x)
	}
}

func TestBytesWordForWord(t *testing.T) {
	for want, x := range map[string]api.Item{
		"\x00":                                 num(0),
		"\x19\x01\x2c":                         num(300),
		"\x1b\x00\x00\xff\xff\xff\xff\xff\xff": num(api.MaxNum),
		"\x40":                                 bytesOf(""),
		"\x43\x00\xff\x0a":                     bytesOf("\x00\xff\n"),
		"\x60":                                 textOf(""),
		"\x63a ~":                              textOf("a ~"),
		"\x80":                                 list(),
		"\x83\x80\x40\x60":                     list(list(), bytesOf(""), textOf("")),
		"\x82\x82\x01\x81\x02\x03":             list(list(num(1), list(num(2))), num(3)),
		"\x81\x81\x81\x81\x81\x80":             nested(5, list()),
		"\x81\x81\x81\x81\x81\x18\x18":         nested(5, num(24)),
	} {
		if s, e := item.Encode(x); s != want || e != api.OK {
			t.Errorf("Encode(%v) = %x, %d; want %x", x, s, e, want)
		}
		wantDecode(t, want, 0, x, len(want))
	}
}

func TestWrongKinds(t *testing.T) {
	for _, kind := range []int{math.MinInt, -4, -2, -1, 1, 5, 6, 7, 8, 32, 256, 258, 1 << 32, math.MaxInt} {
		wantWrong(t, "kind", api.Item{Kind: kind})
		wantWrong(t, "kind", api.Item{Kind: kind, N: 1})
		wantWrong(t, "kind", api.Item{Kind: kind, S: "a"})
		wantWrong(t, "kind", api.Item{Kind: kind, L: many(1, num(1))})
		wantWrong(t, "kind in a list", list(num(1), api.Item{Kind: kind}))
	}
}

func TestWrongNumbers(t *testing.T) {
	for _, n := range []int{math.MinInt, -1 << 48, -1, api.MaxNum + 1, 1 << 49, 1 << 62, math.MaxInt} {
		wantWrong(t, "number", num(n))
		wantWrong(t, "number in lists", nested(3, list(num(1), num(n))))
	}
}

func TestWrongFields(t *testing.T) {
	for _, n := range []int{math.MinInt, -1, 1, api.MaxNum, math.MaxInt} {
		for _, kind := range []int{api.Bytes, api.Text, api.List} {
			wantWrong(t, "N", api.Item{Kind: kind, N: n})
			wantWrong(t, "N in a list", list(list(), api.Item{Kind: kind, N: n}))
		}
	}
	for _, s := range []string{"\x00", "a", strings.Repeat("a", 601)} {
		for _, kind := range []int{api.Number, api.List} {
			wantWrong(t, "S", api.Item{Kind: kind, S: s})
			wantWrong(t, "S in a list", list(api.Item{Kind: kind, S: s}, num(1)))
		}
	}
	for _, kind := range []int{api.Number, api.Bytes, api.Text} {
		for _, l := range [][]api.Item{many(1, num(0)), many(2, list()), many(100, num(-1))} {
			wantWrong(t, "L", api.Item{Kind: kind, L: l})
			wantWrong(t, "L in a list", list(num(1), list(api.Item{Kind: kind, L: l})))
		}
	}
}

func TestTooManyBytes(t *testing.T) {
	for _, n := range []int{601, 602, 1000, 65536, 1 << 20} {
		s := strings.Repeat("a", n)
		wantWrong(t, "bytes", bytesOf(s))
		wantWrong(t, "text", textOf(s))
		wantWrong(t, "bytes in a list", list(num(1), bytesOf(s)))
		wantWrong(t, "text in a list", list(textOf("a"), textOf(s)))
	}
}

func TestBytesOfTexts(t *testing.T) {
	for b := range 256 {
		s := oneByte(b)
		for _, u := range []string{s, "a" + s, s + "a", strings.Repeat("~", 599) + s} {
			wantRight(t, bytesOf(u))
			if b >= 0x20 && b <= 0x7e {
				wantRight(t, textOf(u))
				wantRight(t, list(num(1), textOf(u)))
			} else {
				wantWrong(t, "text", textOf(u))
				wantWrong(t, "text in a list", list(num(1), textOf(u)))
			}
		}
	}
	wantWrong(t, "no byte", textOf("é"))
	wantWrong(t, "no byte", textOf("a\u2028"))
}

func TestTooDeep(t *testing.T) {
	for _, lists := range []int{6, 7, 8, 100} {
		wantWrong(t, "deep", nested(lists, num(7)))
		wantWrong(t, "deep", nested(lists, list()))
		wantWrong(t, "deep", nested(lists, textOf("a")))
	}
	wantRight(t, list(num(1), nested(4, num(1)), num(2), nested(4, list())))
	wantWrong(t, "deep behind others", list(num(1), nested(4, num(1)), num(2), nested(5, list())))
	wantWrong(t, "deep ahead of others", list(nested(5, num(1)), num(2)))
}

func TestTooMany(t *testing.T) {
	wantRight(t, list(many(59, num(1))...))
	for _, n := range []int{60, 61, 1000, 1 << 20} {
		wantWrong(t, "many", list(many(n, num(1))...))
	}
	wantRight(t, list(num(1), list(many(57, num(1))...)))
	wantWrong(t, "many in two lists", list(num(1), list(many(58, num(1))...)))
	wantWrong(t, "many behind a list", list(list(many(57, num(1))...), num(1), num(2)))
	wantWrong(t, "many lists", list(many(30, list(num(1)))...))
	wantRight(t, list(append(many(29, list(num(1))), num(1))...))
}

func TestRightEndsAtAnyItem(t *testing.T) {
	for _, kind := range []int{api.Number, api.Bytes, api.Text, api.List, 9} {
		for _, times := range []int{1, 2, 100} {
			wantWrong(t, "in itself", cyclic(kind, times))
			wantWrong(t, "in itself, in a list", list(num(1), cyclic(kind, times)))
		}
	}
	x := num(1)
	for range 100 {
		// Each list stands in memory once, but there are 2^100 ways through.
		x = list(x, x)
	}
	wantWrong(t, "wide and deep", x)
	wantWrong(t, "deep", nested(1<<16-1, num(1)))
}

func TestRightIsAsTheChapterSays(t *testing.T) {
	leaves := []api.Item{num(0), num(-1), bytesOf("a"), textOf("\x7f"), textOf("a"), list(), {Kind: 1}, {S: "a"}, {Kind: api.List, N: 1}}
	for _, a := range leaves {
		for _, b := range leaves {
			for _, kind := range []int{0, 1, 2, 3, 4, 5} {
				x := api.Item{Kind: kind, L: []api.Item{a, b}}
				if item.Right(x) != plainRight(x) {
					t.Errorf("Right(%v) is %v", x, item.Right(x))
				}
			}
		}
	}
}

func TestSame(t *testing.T) {
	l := rightItems()
	l = append(l, num(-1), api.Item{Kind: 9}, api.Item{Kind: 9, N: -5}, api.Item{Kind: -1}, api.Item{S: "a"}, api.Item{Kind: api.Bytes, S: strings.Repeat("b", 700)})
	l = append(l, api.Item{Kind: 7, N: 1, S: "s", L: many(2, num(1))}, api.Item{Kind: 7, N: 1, S: "s", L: many(2, num(2))}, api.Item{L: many(1, num(0))})
	l = append(l, nested(20, num(1)), nested(20, num(2)), nested(21, num(1)), list(many(100, num(1))...), list(append(many(99, num(1)), num(2))...), list(append([]api.Item{num(2)}, many(99, num(1))...)...))
	for _, a := range l {
		if !item.Same(a, a) {
			t.Errorf("%v is not the same as itself", a)
		}
		for _, b := range l {
			if got := item.Same(a, b); got != equal(a, b) {
				t.Errorf("Same(%v, %v) = %v", a, b, got)
			}
		}
	}
}

func TestSameFieldByField(t *testing.T) {
	base := api.Item{Kind: api.List, N: 3, S: "s", L: []api.Item{num(1), list(num(2))}}
	for _, other := range []api.Item{
		{Kind: api.Text, N: 3, S: "s", L: base.L},
		{Kind: api.List, N: 4, S: "s", L: base.L},
		{Kind: api.List, N: 3, S: "t", L: base.L},
		{Kind: api.List, N: 3, S: "s"},
		{Kind: api.List, N: 3, S: "s", L: base.L[:1]},
		{Kind: api.List, N: 3, S: "s", L: []api.Item{num(1), list(num(2)), num(3)}},
		{Kind: api.List, N: 3, S: "s", L: []api.Item{list(num(2)), num(1)}},
		{Kind: api.List, N: 3, S: "s", L: []api.Item{num(1), list(num(3))}},
		{Kind: api.List, N: 3, S: "s", L: []api.Item{num(1), list(bytesOf(""))}},
	} {
		if item.Same(base, other) || item.Same(other, base) {
			t.Errorf("the same as %v", other)
		}
	}
	again := api.Item{Kind: api.List, N: 3, S: "s", L: []api.Item{num(1), list(num(2))}}
	if !item.Same(base, again) || !item.Same(again, base) {
		t.Error("not the same as one with equal fields")
	}
}

// As many parts in one another as the document lets there be (R5).
func TestSameOfDeepItems(t *testing.T) {
	const lists = 1<<16 - 1
	a, b, c := nested(lists, num(1)), nested(lists, num(1)), nested(lists, num(2))
	if !item.Same(a, b) || item.Same(a, c) || item.Same(a, a.L[0]) {
		t.Error("wrong")
	}
}

func TestSameOfLongLists(t *testing.T) {
	a, b := list(many(1<<18, num(1))...), list(many(1<<18, num(1))...)
	if !item.Same(a, b) {
		t.Error("not the same")
	}
	b.L[1<<18-1] = num(2)
	if item.Same(a, b) {
		t.Error("the same, but for the last one")
	}
}

// Nil and empty lists are one (R3).
func TestNilAndEmptyLists(t *testing.T) {
	for _, kind := range []int{api.Number, api.Bytes, api.Text, api.List} {
		a, b := api.Item{Kind: kind}, api.Item{Kind: kind, L: []api.Item{}}
		if !item.Same(a, b) || !item.Same(list(b), list(a)) {
			t.Errorf("kind %d: not the same", kind)
		}
		wantRight(t, a)
		wantRight(t, b)
		wantRight(t, list(a, b))
	}
}

// What is handed in is not written into, nor its spare room (R3).
func TestHandedInStaysAsItIs(t *testing.T) {
	inner := append(make([]api.Item, 0, 4), num(1), bytesOf("b"))
	outer := append(make([]api.Item, 0, 4), list(inner...), textOf("t"))
	outer[0].L = inner
	x := list(outer...)
	item.Right(x)
	item.Same(x, x)
	item.Encode(x)
	want := list(list(num(1), bytesOf("b"), api.Item{}, api.Item{}), textOf("t"), api.Item{}, api.Item{})
	got := list(outer[:4]...)
	got.L[0].L = inner[:4]
	if !equal(got, want) {
		t.Errorf("%v", got)
	}
}

// P4.2

func TestDecodeAtNoPlace(t *testing.T) {
	for _, s := range []string{"", "\x07", "\x82\x01\x02", "\xff", "\x61\x0a"} {
		for _, at := range []int{math.MinInt, math.MinInt + 1, -2, -1, len(s), len(s) + 1, len(s) + 2, 1 << 62, math.MaxInt - 8, math.MaxInt} {
			wantRefused(t, s, at, api.ErrShort)
		}
	}
	if x, e := item.Whole(""); !isZero(x) || e != api.ErrShort {
		t.Errorf("%v, %d", x, e)
	}
}

func TestDecodeAtAPlace(t *testing.T) {
	s := "\x82\x01\x82\x18\x64\x41a\x07"
	wantDecode(t, s, 0, list(num(1), list(num(100), bytesOf("a"))), 7)
	wantDecode(t, s, 1, num(1), 2)
	wantDecode(t, s, 2, list(num(100), bytesOf("a")), 7)
	wantDecode(t, s, 3, num(100), 5)
	wantDecode(t, s, 5, bytesOf("a"), 7)
	wantDecode(t, s, 7, num(7), 8)
	wantRefused(t, s, 4, api.ErrShort)
	wantRefused(t, s, 8, api.ErrShort)
}

func TestHeadsErrors(t *testing.T) {
	for s, want := range map[string]api.Errno{
		"\x20":                                 api.ErrForm,
		"\xa0":                                 api.ErrForm,
		"\xf6":                                 api.ErrForm,
		"\x1f":                                 api.ErrForm,
		"\x5f":                                 api.ErrForm,
		"\x9f\x01\xff":                         api.ErrForm,
		"\x18\x17":                             api.ErrForm,
		"\x58\x01a":                            api.ErrForm,
		"\x78\x00":                             api.ErrForm,
		"\x98\x00":                             api.ErrForm,
		"\x5a\x00\x00\xff\xff":                 api.ErrForm,
		"\x18":                                 api.ErrShort,
		"\x59\x02":                             api.ErrShort,
		"\x1b\x00\x01\x00\x00\x00\x00\x00\x00": api.ErrNum,
		"\x5b\xff\xff\xff\xff\xff\xff\xff\xff": api.ErrNum,
		"\x7b\x00\x01\x00\x00\x00\x00\x00\x00": api.ErrNum,
		"\x9b\x80\x00\x00\x00\x00\x00\x00\x00": api.ErrNum,
	} {
		wantRefusedAll(t, s, want)
		wantRefusedAll(t, "\x82\x01"+s, want)
		wantRefusedAll(t, "\x81\x81\x81\x81\x81"+s, want)
		wantRefusedAll(t, "\x98\x3b"+strings.Repeat("\x00", 58)+s, want)
	}
}

func TestDataTooLong(t *testing.T) {
	for _, kind := range []int{api.Bytes, api.Text} {
		for _, n := range []int{601, 602, 65535, 65536, 1 << 32, api.MaxNum} {
			for _, behind := range []string{"", "a", "\x0a", strings.Repeat("a", 601), strings.Repeat("\xff", 700)} {
				s := plainHead(kind, n) + behind
				wantRefusedAll(t, s, api.ErrItem)
				wantRefusedAll(t, "\x82\x01"+s, api.ErrItem)
			}
		}
		s := strings.Repeat("a", 600)
		wantDecode(t, plainHead(kind, 600)+s+"a", 0, api.Item{Kind: kind, S: s}, 603)
	}
}

func TestDataTooShort(t *testing.T) {
	for _, kind := range []int{api.Bytes, api.Text} {
		for _, n := range []int{1, 2, 23, 24, 255, 256, 599, 600} {
			// Whatever those bytes are that do stand there.
			for _, b := range []string{"a", "\x0a", "\xff"} {
				for _, size := range []int{0, n / 2, n - 1} {
					s := plainHead(kind, n) + strings.Repeat(b, size)
					wantRefusedAll(t, s, api.ErrShort)
					wantRefusedAll(t, "\x83\x01\x80"+s, api.ErrShort)
				}
			}
		}
	}
}

func TestDecodeBytesOfTexts(t *testing.T) {
	for b := range 256 {
		s := "\x63a" + oneByte(b) + "c"
		u := "\x43a" + oneByte(b) + "c"
		wantDecode(t, u, 0, bytesOf(u[1:]), 4)
		if b >= 0x20 && b <= 0x7e {
			wantDecode(t, s, 0, textOf(s[1:]), 4)
			continue
		}
		wantRefusedAll(t, s, api.ErrForm)
		wantRefusedAll(t, "\x82\x01"+s, api.ErrForm)
		wantRefusedAll(t, "\x62a"+oneByte(b), api.ErrForm)
		wantRefusedAll(t, "\x62"+oneByte(b)+"a", api.ErrForm)
	}
	// Only its own bytes are looked at, not what stands around them.
	wantDecode(t, "\x0a\x61a\x0a", 1, textOf("a"), 3)
	wantDecode(t, "\x60\x0a", 0, textOf(""), 1)
}

func TestDecodeTooDeep(t *testing.T) {
	for _, behind := range []string{"", "\x07", "\xff", "\x80", "\x18", "\x61\x0a", "\x1b\xff\xff\xff\xff\xff\xff\xff\xff"} {
		// The 7th one is refused ahead of all that it may be.
		wantRefusedAll(t, strings.Repeat("\x81", 6)+behind, api.ErrItem)
		wantRefusedAll(t, "\x82\x01"+strings.Repeat("\x81", 5)+behind, api.ErrItem)
		wantRefusedAll(t, "\x82"+strings.Repeat("\x81", 4)+"\x07"+strings.Repeat("\x81", 5)+behind, api.ErrItem)
		wantRefusedAll(t, strings.Repeat("\x9b\x00\x00\xff\xff\xff\xff\xff\xff", 6)+behind, api.ErrItem)
	}
	wantDecode(t, "\x81\x81\x81\x81\x81\x80", 0, nested(5, list()), 6)
	wantDecode(t, "\x81\x81\x81\x81\x81\x07", 0, nested(5, num(7)), 6)
	wantRefusedAll(t, "\x81\x81\x81\x81\x81", api.ErrShort)
	// One that was gone out of is not counted for those behind it.
	two := "\x81\x81\x81\x81\x07"
	wantDecode(t, "\x83"+two+"\x01"+two, 0, list(nested(4, num(7)), num(1), nested(4, num(7))), 12)
	wantRefusedAll(t, strings.Repeat("\x81", 100000), api.ErrItem)
}

func TestDecodeTooMany(t *testing.T) {
	for _, behind := range []string{"", "\x00", "\xff", "\x80", "\x18", "\x61\x0a"} {
		// The 61st one is refused ahead of all that it may be.
		for _, n := range []int{60, 61, 1000, 1 << 32, api.MaxNum} {
			wantRefusedAll(t, plainHead(api.List, n)+strings.Repeat("\x00", 59)+behind, api.ErrItem)
			wantRefusedAll(t, plainHead(api.List, n)+strings.Repeat("\x80", 59)+behind, api.ErrItem)
		}
		wantRefusedAll(t, "\x98\x1e"+strings.Repeat("\x81\x00", 29)+"\x81"+behind, api.ErrItem)
		wantRefusedAll(t, "\x82\x98\x39"+strings.Repeat("\x00", 57)+"\x81"+behind, api.ErrItem)
	}
	for _, n := range []int{60, 1 << 32, api.MaxNum} {
		wantRefusedAll(t, plainHead(api.List, n), api.ErrShort)
		wantRefusedAll(t, plainHead(api.List, n)+strings.Repeat("\x00", 58), api.ErrShort)
		wantRefusedAll(t, plainHead(api.List, n)+strings.Repeat("\x00", 58)+"\xff", api.ErrForm)
	}
	s := "\x98\x3b" + strings.Repeat("\x00", 59)
	wantDecode(t, s+"\x00", 0, list(many(59, num(0))...), len(s))
	wantRefusedAll(t, s[:len(s)-1], api.ErrShort)
	// Each call counts its own.
	for range 3 {
		wantDecode(t, s, 0, list(many(59, num(0))...), len(s))
	}
}

func TestDecodeTellsTheFirstError(t *testing.T) {
	// Part by part: what stands ahead is told, whatever stands behind.
	wantRefusedAll(t, "\x82\x61\x0a\xa0", api.ErrForm)
	wantRefusedAll(t, "\x82\x61\x0a", api.ErrForm)
	wantRefusedAll(t, "\x83\x59\x02\x59\xff", api.ErrItem)
	wantRefusedAll(t, "\x82\xff\x59\x02\x59", api.ErrForm)
	wantRefusedAll(t, "\x82\x1b\xff\xff\xff\xff\xff\xff\xff\xff\xff", api.ErrNum)
	wantRefusedAll(t, "\x82\x42a", api.ErrShort)
	wantRefusedAll(t, "\x82\x01", api.ErrShort)
	// Of a text: too long, too short, no letters.
	wantRefusedAll(t, "\x79\x02\x59\x0a", api.ErrItem)
	wantRefusedAll(t, "\x62\x0a", api.ErrShort)
	wantRefusedAll(t, "\x61\x0a", api.ErrForm)
}

func TestWhole(t *testing.T) {
	for _, x := range rightItems() {
		s := plainBytes(x)
		if y, e := item.Whole(s); !equal(x, y) || e != api.OK {
			t.Errorf("Whole(%x) = %v, %d", short(s), y, e)
		}
		for _, behind := range []string{"\x00", "\xff", "\x18", s} {
			if y, e := item.Whole(s + behind); !isZero(y) || e != api.ErrForm {
				t.Errorf("Whole(%x) with %x behind = %v, %d", short(s), short(behind), y, e)
			}
		}
	}
	// What is wrong with the item is told ahead of what stands behind.
	for s, want := range map[string]api.Errno{"\x59\x02\x59\x00": api.ErrItem, "\x1b\xff\xff\xff\xff\xff\xff\xff\xff\x00": api.ErrNum} {
		if y, e := item.Whole(s); !isZero(y) || e != want {
			t.Errorf("Whole(%x) = %v, %d", s, y, e)
		}
	}
}

// All short texts of bytes that tell something in an item.
func TestDecodeShortTexts(t *testing.T) {
	const alphabet = "\x00\x0a\x17\x18\x19\x20\x41\x42\x58\x60\x61\x62\x7e\x80\x81\x82\x98\xff"
	l := []string{""}
	for i := 0; len(l[i]) < 4; i++ {
		for _, b := range []byte(alphabet) {
			l = append(l, l[i]+oneByte(int(b)))
		}
	}
	for _, s := range l {
		wantPlain(t, s, 0)
	}
	for _, s := range l[:4000] {
		for at := -1; at <= len(s)+1; at++ {
			wantPlain(t, s, at)
		}
	}
}

// Bytes of right items, of which one is changed, dropped, or laid between.
func TestDecodeChangedBytes(t *testing.T) {
	for _, x := range rightItems() {
		s := plainBytes(x)
		if len(s) > 700 {
			continue
		}
		for i := range min(len(s), 80) {
			for _, b := range []string{"", "\x00", "\x01", "\x0a", "\x18", "\x41", "\x61", "\x80", "\x81", "\x82", "\x9b", "\xff"} {
				wantPlain(t, s[:i]+b+s[i+1:], 0)
				wantPlain(t, s[:i]+b+s[i:], 0)
			}
			wantPlain(t, s[:i], 0)
		}
	}
}

// A rule of its own for numbers keeps the texts the same at each run.
func TestDecodeManyTexts(t *testing.T) {
	state := uint32(1)
	next := func(below int) int {
		state = state*1664525 + 1013904223
		return int(state>>8) % below
	}
	const alphabet = "\x00\x01\x17\x18\x19\x20\x40\x41\x43\x60\x61\x63\x80\x81\x81\x82\x82\x83\x84\x87\x98\x3b\x3c"
	for range 100000 {
		b := make([]byte, next(90))
		for i := range b {
			b[i] = alphabet[next(len(alphabet))]
		}
		wantPlain(t, string(b), 0)
		wantPlain(t, string(b), next(5))
	}
}

// lists are all those of an item, with their spare room.
func lists(x api.Item) [][]api.Item {
	l := [][]api.Item{x.L[:cap(x.L)]}
	for _, y := range x.L {
		l = append(l, lists(y)...)
	}
	return l
}

// No two lists of an answer share memory, spare room too (R3).
func TestListsShareNothing(t *testing.T) {
	s := "\x84\x83\x01\x81\x02\x80\x82\x85\x01\x02\x03\x04\x05\x80\x83\x01\x02\x03\x81\x81\x80"
	x, _, e := item.Decode(s, 0)
	y, f := item.Whole(s)
	if e != api.OK || f != api.OK {
		t.Fatal(e, f)
	}
	seen := map[*api.Item]bool{}
	for _, l := range append(lists(x), lists(y)...) {
		for i := range l {
			if seen[&l[i]] {
				t.Fatal("two lists share memory")
			}
			seen[&l[i]] = true
		}
	}
}

// Only the item is looked at, not what stands behind: else this would take hours (R1).
func TestDecodeInALongText(t *testing.T) {
	const times = 1 << 18
	s := strings.Repeat("\x82\x01\x61a", times)
	at := 0
	for range times {
		x, behind, e := item.Decode(s, at)
		if len(x.L) != 2 || behind != at+4 || e != api.OK {
			t.Fatalf("at %d: %v, %d, %d", at, x, behind, e)
		}
		at = behind
	}
	wantRefused(t, s, at, api.ErrShort)
}

// P4.3

func TestItemIsDecodedFromItsBytes(t *testing.T) {
	for _, x := range rightItems() {
		s, e := item.Encode(x)
		if e != api.OK {
			t.Fatalf("Encode(%v): %d", x, e)
		}
		for _, behind := range []string{"", "\x00", "\x0a", "\x80", "\xff", "\x1b\xff", s} {
			wantDecode(t, s+behind, 0, x, len(s))
			wantDecode(t, "\x9b\xff"+s+behind, 2, x, len(s)+2)
		}
	}
}

func TestDecodedItemHasTheseBytes(t *testing.T) {
	for _, x := range rightItems() {
		s := plainBytes(x)
		y, behind, e := item.Decode("\x0a"+s+"\x00", 1)
		if u, f := item.Encode(y); u != s || behind != 1+len(s) || e != api.OK || f != api.OK || !item.Right(y) {
			t.Errorf("%x, %d, %d, %d", short(u), behind, e, f)
		}
	}
}
