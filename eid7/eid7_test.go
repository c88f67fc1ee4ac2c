package eid7_test

import (
	"encoding/binary"
	"fmt"
	"math"
	"math/rand"
	"slices"
	"strconv"
	"strings"
	"testing"

	"postrider/api"
	"postrider/eid"
	"postrider/eid7"
	"postrider/item"
)

const (
	maxNum  = 281474976710655
	letters = "abcdefghijklmnopqrstuvwxyz0123456789-."
)

func none() api.Eid { return api.Eid{} }

func dtn(node string, service string) api.Eid {
	return api.Eid{Scheme: api.Dtn, Node: node, Service: service}
}

func ipn(a int, b int) api.Eid { return api.Eid{Scheme: api.Ipn, A: a, B: b} }

func num(n int) api.Item { return api.Item{Kind: api.Number, N: n} }

func bytesOf(s string) api.Item { return api.Item{Kind: api.Bytes, S: s} }

func textOf(s string) api.Item { return api.Item{Kind: api.Text, S: s} }

func list(l ...api.Item) api.Item { return api.Item{Kind: api.List, L: l} }

func oneByte(b int) string { return string([]byte{byte(b)}) }

// plainItem is a right name's, as the chapter says it.
func plainItem(e api.Eid) api.Item {
	switch e.Scheme {
	case 1:
		return list(num(1), textOf("//"+e.Node+"/"+e.Service))
	case 2:
		return list(num(2), list(num(e.A), num(e.B)))
	}
	return list(num(1), num(0))
}

// plainHead are the bytes of a head, as chapter 3 says them, with a number below 2^32.
func plainHead(major int, n int) string {
	first := byte(32 * major)
	switch {
	case n < 24:
		return string([]byte{first + byte(n)})
	case n < 1<<8:
		return string([]byte{first + 24, byte(n)})
	case n < 1<<16:
		return string(binary.BigEndian.AppendUint16([]byte{first + 25}, uint16(n)))
	}
	return string(binary.BigEndian.AppendUint32([]byte{first + 26}, uint32(n)))
}

// plainBytes are those of a right name, as the chapter says them.
func plainBytes(e api.Eid) string {
	switch e.Scheme {
	case 1:
		rest := "//" + e.Node + "/" + e.Service
		return "\x82\x01" + plainHead(3, len(rest)) + rest
	case 2:
		return "\x82\x02\x82" + plainHead(0, e.A) + plainHead(0, e.B)
	}
	return "\x82\x01\x00"
}

// isText tells whether an item is a text, a number or a list of so many items, and has nothing else.
func isText(x api.Item) bool { return x.Kind == 3 && x.N == 0 && len(x.L) == 0 }

func isNumber(x api.Item) bool { return x.Kind == 0 && x.S == "" && len(x.L) == 0 }

func isList(x api.Item, count int) bool {
	return x.Kind == 4 && x.N == 0 && x.S == "" && len(x.L) == count
}

// plainName is what the chapter says of an item that is some right name's.
func plainName(x api.Item) (api.Eid, bool) {
	if !isList(x, 2) || !isNumber(x.L[0]) {
		return none(), false
	}
	code, rest := x.L[0].N, x.L[1]
	switch {
	case code == 1 && isNumber(rest):
		return none(), rest.N == 0
	case code == 1 && isText(rest):
		after, slashes := strings.CutPrefix(rest.S, "//")
		node, service, slash := strings.Cut(after, "/")
		if e := dtn(node, service); slashes && slash && eid.Right(e) {
			return e, true
		}
	case code == 2 && isList(rest, 2) && isNumber(rest.L[0]) && isNumber(rest.L[1]):
		if e := ipn(rest.L[0].N, rest.L[1].N); eid.Right(e) {
			return e, true
		}
	}
	return none(), false
}

// equal tells whether two items, of which the second one is not in itself, have the same fields.
func equal(a api.Item, b api.Item) bool {
	return a.Kind == b.Kind && a.N == b.N && a.S == b.S && slices.EqualFunc(a.L, b.L, equal)
}

// copied is the same item in lists of its own.
func copied(x api.Item) api.Item {
	l := make([]api.Item, 0, len(x.L))
	for _, y := range x.L {
		l = append(l, copied(y))
	}
	x.L = l
	return x
}

// nodes are an item and all that are in it.
func nodes(x *api.Item) []*api.Item {
	l := []*api.Item{x}
	for i := range x.L {
		l = append(l, nodes(&x.L[i])...)
	}
	return l
}

// rightNames are ordinary ones, and those at the edges.
func rightNames() []api.Eid {
	l := []api.Eid{none(), dtn("earth", "news"), dtn("earth", ""), dtn("none", ""), dtn("none", "none"), dtn("dtn", "ipn"), dtn("4.7", "4.7"), dtn(".", "."), dtn("..", "../.."), dtn("-", "/"), ipn(4, 7), ipn(1, 0)}
	for n := 1; n <= 20; n++ {
		part := letters[len(letters)-n:]
		l = append(l, dtn(part, ""), dtn("a", part), dtn(part, part), dtn("a", strings.Repeat("/", n)), dtn(strings.Repeat("-", n), strings.Repeat(".", n)))
	}
	for _, b := range letters {
		l = append(l, dtn(string(b), ""), dtn("a"+string(b)+"a", string(b)))
	}
	edges := []int{1, 2, 22, 23, 24, 25, 127, 128, 254, 255, 256, 257, 65534, 65535, 65536, 65537, 99999999, 999999998, 999999999}
	for _, a := range edges {
		l = append(l, ipn(a, 0))
		for _, b := range edges {
			l = append(l, ipn(a, b))
		}
	}
	return l
}

// randomNames are right ones.
func randomNames(count int) []api.Eid {
	r := rand.New(rand.NewSource(10))
	some := func(alphabet string, n int) string {
		s := ""
		for range n {
			s += oneByte(int(alphabet[r.Intn(len(alphabet))]))
		}
		return s
	}
	var l []api.Eid
	for range count {
		shift := r.Intn(30)
		l = append(l, dtn(some(letters, 1+r.Intn(20)), some(letters+"/", r.Intn(21))), ipn(1+r.Intn(999999999)>>shift, r.Intn(1000000000)>>shift))
	}
	return l
}

// wrongParts are no nodes; and no services, but for those with slashes.
func wrongParts() []string {
	return []string{strings.Repeat("a", 21), strings.Repeat("a", 1<<16), "A", "a b", "a\x00", "\xff", "a\xc3\xa9", "a_b", "a:b", "a\n", "~", "\x7f"}
}

func wrongNumbers() []int {
	return []int{math.MinInt, math.MinInt + 1, -999999999, -2, -1, 1000000000, 1000000001, 1 << 32, 1<<32 + 1, maxNum, maxNum + 1, math.MaxInt}
}

// wrongNames are one field away from right ones.
func wrongNames() []api.Eid {
	l := []api.Eid{{Node: "a"}, {Service: "a"}, {A: 1}, {B: 1}, {A: -1}, {B: -1}, {Node: "a", Service: "b"}, {A: 4, B: 7}, {Node: "none"}}
	for _, scheme := range []int{math.MinInt, -1, 3, 4, 10, 256, 257, 258, 1<<32 + 1, 1<<32 + 2, math.MaxInt} {
		l = append(l, api.Eid{Scheme: scheme}, api.Eid{Scheme: scheme, Node: "a", Service: "b"}, api.Eid{Scheme: scheme, A: 4, B: 7})
	}
	for _, n := range []int{-1, 1, 7, math.MinInt, math.MaxInt} {
		l = append(l, api.Eid{Scheme: 1, Node: "a", A: n}, api.Eid{Scheme: 1, Node: "a", Service: "b", B: n})
	}
	for _, s := range []string{"a", "/", " ", "\x00", "\xff"} {
		l = append(l, api.Eid{Scheme: 2, A: 1, Node: s}, api.Eid{Scheme: 2, A: 1, B: 1, Service: s})
	}
	l = append(l, dtn("", ""), dtn("", "a"), dtn("/", ""), dtn("a/", ""), dtn("/a", ""), dtn("a/b", "c"), ipn(0, 0), ipn(0, 1))
	for _, s := range wrongParts() {
		l = append(l, dtn(s, ""), dtn(s, "a"), dtn("a", s))
	}
	for _, n := range wrongNumbers() {
		l = append(l, ipn(n, 0), ipn(n, 1), ipn(1, n), ipn(n, n))
	}
	return l
}

// told keeps what is told of long texts and lists readable.
func told(x any) string {
	s := fmt.Sprintf("%+v", x)
	return strconv.Quote(s[:min(len(s), 200)])
}

func wantName(t *testing.T, e api.Eid) {
	t.Helper()
	want, s := plainItem(e), plainBytes(e)
	if x, wrong := eid7.Item(e); !equal(x, want) || wrong != api.OK {
		t.Errorf("Item(%v) = %v, %d", told(e), told(x), wrong)
	}
	if got, wrong := eid7.Name(want); got != e || wrong != api.OK {
		t.Errorf("Name(%v) = %v, %d; want %v", told(want), told(got), wrong, told(e))
	}
	if got, wrong := eid7.Encode(e); got != s || wrong != api.OK {
		t.Errorf("Encode(%v) = %q, %d; want %q", told(e), got, wrong, s)
	}
	if got, at, wrong := eid7.Decode(s, 0); got != e || at != len(s) || wrong != api.OK {
		t.Errorf("Decode(%q, 0) = %v, %d, %d; want %v", s, told(got), at, wrong, told(e))
	}
}

func wantNoName(t *testing.T, e api.Eid) {
	t.Helper()
	if x, wrong := eid7.Item(e); !equal(x, api.Item{}) || wrong != api.ErrEid {
		t.Errorf("Item(%v) = %v, %d; want ErrEid", told(e), told(x), wrong)
	}
	if s, wrong := eid7.Encode(e); s != "" || wrong != api.ErrEid {
		t.Errorf("Encode(%v) = %q, %d; want ErrEid", told(e), s, wrong)
	}
}

// wantRead holds what is told of an item against the chapter, a name's or not.
func wantRead(t *testing.T, x api.Item) {
	t.Helper()
	want, right := plainName(x)
	e, wrong := eid7.Name(x)
	if right && (e != want || wrong != api.OK) {
		t.Errorf("Name(%v) = %v, %d; want %v", told(x), told(e), wrong, told(want))
	}
	if !right && (e != none() || wrong != api.ErrEid) {
		t.Errorf("Name(%v) = %v, %d; want ErrEid", told(x), told(e), wrong)
	}
}

func wantNoItem(t *testing.T, x api.Item) {
	t.Helper()
	if e, wrong := eid7.Name(x); e != none() || wrong != api.ErrEid {
		t.Errorf("Name(%v) = %v, %d; want ErrEid", told(x), told(e), wrong)
	}
}

func wantRefused(t *testing.T, s string, at int, want api.Errno) {
	t.Helper()
	if e, behind, wrong := eid7.Decode(s, at); e != none() || behind != 0 || wrong != want {
		t.Errorf("Decode(%v, %d) = %v, %d, %d; want the error %d", told(s), at, told(e), behind, wrong, want)
	}
}

// wantDecode holds what is decoded from a place against the chapter: the item's error, that there is no name, or the name.
func wantDecode(t *testing.T, s string, at int) {
	t.Helper()
	x, behind, wrong := item.Decode(s, at)
	want, right := plainName(x)
	switch {
	case wrong != api.OK:
		wantRefused(t, s, at, wrong)
	case !right:
		wantRefused(t, s, at, api.ErrEid)
	default:
		if e, place, wrong := eid7.Decode(s, at); e != want || place != behind || wrong != api.OK {
			t.Errorf("Decode(%q, %d) = %v, %d, %d; want %v, %d", s, at, told(e), place, wrong, told(want), behind)
		}
		if own, wrong := eid7.Encode(want); own != s[at:behind] || wrong != api.OK {
			t.Errorf("Encode(%v) = %q, %d; want %q", told(want), own, wrong, s[at:behind])
		}
	}
}

// P10.1, P10.2: what the chapter's table says, and the document's.
func TestExamples(t *testing.T) {
	for s, e := range map[string]api.Eid{
		"\x82\x02\x82\x04\x07":             ipn(4, 7),
		"\x82\x01\x00":                     none(),
		"\x82\x01\x65//a/b":                dtn("a", "b"),
		"\x82\x01\x64//a/":                 dtn("a", ""),
		"\x82\x02\x82\x18\x18\x19\x01\x2c": ipn(24, 300),
		"\x82\x02\x82\x1a\x3b\x9a\xc9\xff\x1a\x00\x01\x00\x00": ipn(999999999, 65536),
	} {
		if plainBytes(e) != s {
			t.Fatalf("%v is tested with %q", told(e), plainBytes(e))
		}
		wantName(t, e)
	}
}

// P10.1: items, written out.
func TestItems(t *testing.T) {
	for _, c := range []struct {
		e api.Eid
		x api.Item
	}{
		{api.Eid{}, api.Item{Kind: 4, L: []api.Item{{N: 1}, {}}}},
		{api.Eid{Scheme: 1, Node: "a", Service: "b"}, api.Item{Kind: 4, L: []api.Item{{N: 1}, {Kind: 3, S: "//a/b"}}}},
		{api.Eid{Scheme: 1, Node: "none"}, api.Item{Kind: 4, L: []api.Item{{N: 1}, {Kind: 3, S: "//none/"}}}},
		{api.Eid{Scheme: 2, A: 4, B: 7}, api.Item{Kind: 4, L: []api.Item{{N: 2}, {Kind: 4, L: []api.Item{{N: 4}, {N: 7}}}}}},
		{api.Eid{Scheme: 2, A: 1}, api.Item{Kind: 4, L: []api.Item{{N: 2}, {Kind: 4, L: []api.Item{{N: 1}, {}}}}}},
	} {
		if x, wrong := eid7.Item(c.e); !equal(x, c.x) || wrong != 0 {
			t.Errorf("Item(%v) = %v, %d", told(c.e), told(x), wrong)
		}
		if e, wrong := eid7.Name(c.x); e != c.e || wrong != 0 {
			t.Errorf("Name(%v) = %v, %d", told(c.x), told(e), wrong)
		}
	}
}

// P10.1 to P10.3
func TestRightNames(t *testing.T) {
	for _, e := range slices.Concat(rightNames(), randomNames(5000)) {
		if !eid.Right(e) {
			t.Fatalf("%v is none to test with", told(e))
		}
		wantName(t, e)
	}
}

// P10.1, P10.2
func TestWrongNames(t *testing.T) {
	for _, e := range wrongNames() {
		if eid.Right(e) {
			t.Fatalf("%v is none to test with", told(e))
		}
		wantNoName(t, e)
		// What would be its item may be another name's, if it leaves out what is wrong.
		wantRead(t, plainItem(e))
	}
}

// P10.1: all lists of two of such items, and what they are in.
func TestShapes(t *testing.T) {
	parts := []api.Item{list(), list(num(4)), list(num(4), num(7)), list(num(4), num(7), num(0)), list(num(4), textOf("7")), list(num(1), num(0)), list(textOf("//a/b")), list(list(num(4), num(7)))}
	for _, n := range []int{-1, 0, 1, 2, 3, 4, 7, maxNum} {
		parts = append(parts, num(n))
	}
	for _, s := range []string{"", "none", "//a/b", "//a/", "4.7", "dtn", "ipn", "dtn:none", "dtn://a/b", "ipn:4.7"} {
		parts = append(parts, textOf(s), bytesOf(s), api.Item{S: s}, api.Item{Kind: 4, S: s})
	}
	for _, x := range parts {
		wantRead(t, x)
		wantRead(t, list(x))
		for _, y := range parts {
			wantRead(t, list(x, y))
			wantRead(t, list(num(2), list(x, y)))
			wantRead(t, list(list(x, y)))
			for _, z := range parts {
				wantRead(t, list(x, y, z))
			}
		}
	}
}

// changes are all that may be changed of one item, without what is in it.
func changes() []func(*api.Item) {
	var l []func(*api.Item)
	for _, n := range []int{math.MinInt, -4, -1, 0, 1, 2, 3, 4, 5, 6, 256, 260, math.MaxInt} {
		l = append(l, func(x *api.Item) { x.Kind = n }, func(x *api.Item) { x.N = n }, func(x *api.Item) { x.N += n })
	}
	for _, s := range []string{"", "a", "\x00", "none", "//a/b", "//a/", "/"} {
		l = append(l, func(x *api.Item) { x.S = s }, func(x *api.Item) { x.S += s }, func(x *api.Item) { x.S = s + x.S })
	}
	for _, y := range []api.Item{num(0), num(7), textOf("//a/b"), bytesOf(""), list(), list(num(4), num(7))} {
		l = append(l, func(x *api.Item) { *x = y }, func(x *api.Item) { x.L = append(x.L, y) }, func(x *api.Item) { x.L = append([]api.Item{y}, x.L...) })
	}
	return append(l,
		func(x *api.Item) { x.L = nil },
		func(x *api.Item) { x.L = x.L[:len(x.L)/2] },
		func(x *api.Item) { x.L = x.L[len(x.L)/2:] },
		func(x *api.Item) { slices.Reverse(x.L) },
		func(x *api.Item) { *x = list(copied(*x)) },
		func(x *api.Item) { *x = list(num(1), copied(*x)) },
		func(x *api.Item) { *x = list(num(2), copied(*x)) },
	)
}

// P10.1: items that are one change, or two, away from a name's.
func TestItemsChanged(t *testing.T) {
	all := changes()
	for _, e := range []api.Eid{none(), dtn("a", "b"), dtn("none", ""), dtn("earth", "/news"), ipn(4, 7), ipn(1, 0), ipn(2, 1), ipn(999999999, 999999999)} {
		want := plainItem(e)
		for i := range nodes(&want) {
			for _, change := range all {
				x := copied(want)
				change(nodes(&x)[i])
				wantRead(t, x)
				for j := range nodes(&x) {
					for _, again := range all {
						y := copied(x)
						again(nodes(&y)[j])
						wantRead(t, y)
					}
				}
			}
		}
	}
}

// P10.1: the numbers that a name of ipn may have.
func TestNumbers(t *testing.T) {
	edges := append(wrongNumbers(), 0, 1, 2, 23, 24, 255, 256, 65535, 65536, 999999998, 999999999)
	for _, a := range edges {
		for _, b := range edges {
			e, right := ipn(a, b), 1 <= a && a <= 999999999 && 0 <= b && b <= 999999999
			if right {
				wantName(t, e)
				continue
			}
			wantNoName(t, e)
			wantNoItem(t, plainItem(e))
			if s, wrong := item.Encode(plainItem(e)); wrong == api.OK {
				wantRefused(t, s, 0, api.ErrEid)
			}
		}
		if a != 0 {
			wantNoItem(t, list(num(1), num(a)))
		}
	}
}

// P10.1: the texts that a name of dtn may have.
func TestTexts(t *testing.T) {
	texts := []string{"", "none", "None", "/", "//", "///", "////", "///a", "//a", "/a/b", "a/b", "a", "//a/b ", " //a/b", "//a/b:", ":////a/b", "dtn://a/b", "dtn:none", "4.7", "//none", "//A/", "//a/B", "//a\x00/b", "//a/b\x00", "//\xff/", "//\xc3\xa9/"}
	for _, n := range []int{20, 21, 1 << 20} {
		part := strings.Repeat("a", n)
		texts = append(texts, "//"+part+"/", "//a/"+part, "//"+part+"/"+part, "//"+part, part)
	}
	for _, s := range texts {
		wantRead(t, list(num(1), textOf(s)))
		wantNoItem(t, list(num(1), bytesOf(s)))
		wantNoItem(t, list(num(2), textOf(s)))
		wantNoItem(t, list(num(0), textOf(s)))
	}
	longest := strings.Repeat("a", 20)
	for s, e := range map[string]api.Eid{"//a/b": dtn("a", "b"), "//none/": dtn("none", ""), "//a//": dtn("a", "/"), "//" + longest + "/" + longest: dtn(longest, longest)} {
		if got, wrong := eid7.Name(list(num(1), textOf(s))); got != e || wrong != api.OK {
			t.Errorf("Name of %q = %v, %d", s, told(got), wrong)
		}
	}
}

// P10.1, R1: items that are in themselves, or have much in them.
func TestGreatItems(t *testing.T) {
	itself := list(num(1), num(0))
	itself.L[1] = itself
	wantNoItem(t, itself)
	pair := list(num(4), num(7))
	pair.L[0], pair.L[1] = pair, pair
	wantNoItem(t, list(num(2), pair))
	wantNoItem(t, list(pair, pair))
	wide := num(0)
	for range 100 {
		// Each list stands in memory once, but there are 2^100 ways through.
		wide = list(wide, wide)
	}
	wantNoItem(t, wide)
	wantNoItem(t, list(num(1), wide))
	wantNoItem(t, list(num(2), wide))
	deep := num(0)
	for range 1<<16 - 3 {
		deep = list(deep)
	}
	wantNoItem(t, deep)
	wantNoItem(t, list(num(1), deep))
	wantNoItem(t, list(num(2), list(num(4), deep)))
	many := slices.Repeat([]api.Item{num(1)}, 1<<18)
	wantNoItem(t, list(many...))
	wantNoItem(t, list(num(2), list(many...)))
	long := strings.Repeat("a", 1<<24)
	wantNoItem(t, list(num(1), textOf("//"+long+"/")))
	wantNoItem(t, list(num(1), api.Item{S: long}))
	wantNoName(t, dtn(long, long))
}

// P10.2: the item's error is told, from any place on.
func TestDecodeItemsErrors(t *testing.T) {
	for s, want := range map[string]api.Errno{
		"":                        api.ErrShort,
		"\x82":                    api.ErrShort,
		"\x82\x01":                api.ErrShort,
		"\x82\x01\x65//a/":        api.ErrShort,
		"\x82\x02\x82\x04":        api.ErrShort,
		"\x82\x02\x82\x1a":        api.ErrShort,
		"\x82\x01\x18\x00":        api.ErrForm,
		"\x82\x18\x01\x00":        api.ErrForm,
		"\x98\x02\x01\x00":        api.ErrForm,
		"\x82\x01\x20":            api.ErrForm,
		"\x82\x01\xf6":            api.ErrForm,
		"\x9f\x01\x00\xff":        api.ErrForm,
		"\x82\x01\x78\x05//a/b":   api.ErrForm,
		"\x82\x01\x65//a/\x1f":    api.ErrForm,
		"\x82\x01\x65//a/\x7f":    api.ErrForm,
		"\x82\x01\x65//\xc3\xa9/": api.ErrForm,
		"\x82\x02\x82\x04\x1b\x00\x01\x00\x00\x00\x00\x00\x00": api.ErrNum,
		"\x82\x02\x82\x1b\xff\xff\xff\xff\xff\xff\xff\xff\x00": api.ErrNum,
		"\x82\x01\x79\x02\x59":                                 api.ErrItem,
		"\x81\x81\x81\x81\x81\x81\x00":                         api.ErrItem,
		"\x98\x3c" + strings.Repeat("\x00", 60):                api.ErrItem,
		// What is no name's ahead of the error changes nothing.
		"\x82\x00\x18\x00":     api.ErrForm,
		"\x83\x01\x00":         api.ErrShort,
		"\x83\x01\x00\xff":     api.ErrForm,
		"\x82\x01\x82\x04\x20": api.ErrForm,
	} {
		wantRefused(t, s, 0, want)
		wantRefused(t, "\x82\x01\x00"+s, 3, want)
		wantRefused(t, "\xff\x18"+s, 2, want)
	}
}

// P10.2: items that are no name's, from any place on.
func TestDecodeNoNames(t *testing.T) {
	for _, s := range []string{"\x00", "\x01", "\x40", "\x60", "\x80", "\x81\x01", "\x82\x00\x00", "\x82\x01\x01", "\x82\x02\x00", "\x82\x03\x00", "\x83\x01\x00\x00", "\x82\x00\x01", "\x82\x41\x01\x00", "\x82\x61a\x00", "\x82\x80\x00", "\x82\x01\x40", "\x82\x01\x60", "\x82\x01\x80", "\x82\x01\x64none", "\x82\x01\x65//A/b", "\x82\x01\x45//a/b", "\x82\x02\x65//a/b", "\x82\x00\x65//a/b", "\x83\x01\x65//a/b\x00", "\x68dtn:none", "\x69dtn://a/b", "\x67ipn:4.7", "\x82\x02\x634.7", "\x82\x01\x82\x04\x07", "\x82\x03\x82\x04\x07", "\x82\x02\x82\x00\x07", "\x82\x02\x80", "\x82\x02\x81\x04", "\x82\x02\x83\x04\x07\x00", "\x83\x02\x04\x07", "\x82\x04\x07", "\x82\x82\x04\x07\x02", "\x82\x02\x82\x04\x1a\x3b\x9a\xca\x00", "\x82\x02\x82\x1a\x3b\x9a\xca\x00\x00", "\x82\x02\x82\x04\x40", "\x82\x02\x82\x04\x80", "\x81\x82\x01\x00"} {
		wantRefused(t, s, 0, api.ErrEid)
		wantRefused(t, s+"\xff", 0, api.ErrEid)
		wantRefused(t, "\x82\x01\x00"+s+"\x82\x01\x00", 3, api.ErrEid)
	}
}

// P10.2: places that are none, and those at which another thing stands.
func TestDecodePlaces(t *testing.T) {
	for _, e := range []api.Eid{none(), dtn("a", "b"), ipn(4, 7), ipn(300, 70000)} {
		s := plainBytes(e)
		for _, at := range []int{math.MinInt, math.MinInt + 1, -len(s), -1, len(s), len(s) + 1, 2 * len(s), math.MaxInt - 1, math.MaxInt} {
			wantRefused(t, s, at, api.ErrShort)
		}
		all := "\x07" + s + s + "\x82\x01\x00"
		for at := -1; at <= len(all)+1; at++ {
			wantDecode(t, all, at)
		}
		if got, at, wrong := eid7.Decode(all, 1+len(s)); got != e || at != 1+2*len(s) || wrong != api.OK {
			t.Errorf("Decode(%q, %d) = %v, %d, %d", all, 1+len(s), told(got), at, wrong)
		}
	}
}

// P10.2: whatever byte is put into a name's bytes, taken out, or another one.
func TestDecodeChanged(t *testing.T) {
	for _, e := range []api.Eid{none(), dtn("a", "b"), dtn("earth", "news"), dtn("a", ""), dtn("a", "/"), dtn(strings.Repeat("a", 20), strings.Repeat("b", 20)), ipn(4, 7), ipn(1, 0), ipn(24, 300), ipn(70000, 23), ipn(999999999, 999999999)} {
		s := plainBytes(e)
		for i := range len(s) + 1 {
			wantDecode(t, s[:i], 0)
			wantDecode(t, s[i:], 0)
			for b := range 256 {
				wantDecode(t, s[:i]+oneByte(b)+s[i:], 0)
				if i < len(s) {
					wantDecode(t, s[:i]+oneByte(b)+s[i+1:], 0)
				}
			}
			for j := i; j <= len(s); j++ {
				wantDecode(t, s[:i]+s[j:], 0)
				wantDecode(t, s[:j]+s[i:], 0)
			}
		}
	}
}

// P10.2: texts put together of what names' bytes have in them.
func TestDecodePieces(t *testing.T) {
	pieces := []string{"\x00", "\x01", "\x02", "\x04", "\x18", "\x81", "\x82", "\x83", "\x64none", "\x65//a/b", "\x45//a/b", "\xff"}
	l := []string{""}
	for from, steps := 0, 5; steps > 0; steps-- {
		to := len(l)
		for _, s := range l[from:to] {
			for _, p := range pieces {
				l = append(l, s+p)
			}
		}
		from = to
	}
	for _, s := range l {
		wantDecode(t, s, 0)
	}
}

// P10.2, R1: what stands behind is not gone through: else this would take hours.
func TestDecodeInALongText(t *testing.T) {
	s := plainBytes(dtn("a", "b"))
	const times = 1 << 17
	all := strings.Repeat(s, times)
	for n := range times {
		if e, at, wrong := eid7.Decode(all, n*len(s)); e != dtn("a", "b") || at != (n+1)*len(s) || wrong != api.OK {
			t.Fatalf("Decode at %d = %v, %d, %d", n*len(s), told(e), at, wrong)
		}
	}
	wantRefused(t, all, len(all), api.ErrShort)
}

// P10.3: a name is told of its item, and decoded from its bytes, whatever stands behind.
func TestThereAndBack(t *testing.T) {
	for _, e := range slices.Concat(rightNames(), randomNames(2000)) {
		x, wrong := eid7.Item(e)
		s, f := eid7.Encode(e)
		if wrong != api.OK || f != api.OK {
			t.Fatalf("%v: %d, %d", told(e), wrong, f)
		}
		if got, wrong := eid7.Name(x); got != e || wrong != api.OK {
			t.Errorf("Name(Item(%v)) = %v, %d", told(e), told(got), wrong)
		}
		if whole, wrong := item.Whole(s); !equal(whole, x) || wrong != api.OK {
			t.Errorf("Encode(%v) are the bytes of %v, %d", told(e), told(whole), wrong)
		}
		for _, behind := range []string{"", "\x00", "\x07", "\x82", "\xff", "/", "a", s, strings.Repeat("\x81", 70)} {
			for _, ahead := range []string{"", "\x00", "\xff\x18"} {
				if got, at, wrong := eid7.Decode(ahead+s+behind, len(ahead)); got != e || at != len(ahead)+len(s) || wrong != api.OK {
					t.Errorf("Decode(%q, %d) = %v, %d, %d; want %v", ahead+s+behind, len(ahead), told(got), at, wrong, told(e))
				}
			}
		}
	}
}

// P10.3: so no two names have the same bytes, and none's begin another one's.
func TestBytesDiffer(t *testing.T) {
	l := slices.Concat(rightNames(), randomNames(5000))
	for a := 1; a < 40; a++ {
		for b := range 40 {
			l = append(l, ipn(a, b))
		}
	}
	names := map[string]api.Eid{}
	var all []string
	for _, e := range l {
		s, _ := eid7.Encode(e)
		if other, met := names[s]; met && other != e {
			t.Errorf("%v and %v have both %q", told(e), told(other), s)
		}
		names[s] = e
		all = append(all, s)
	}
	slices.Sort(all)
	all = slices.Compact(all)
	for i := range all[1:] {
		// What begins with a text stands right behind it.
		if strings.HasPrefix(all[i+1], all[i]) {
			t.Errorf("%q begins %q", all[i], all[i+1])
		}
	}
}

// R3: nil and empty lists are one.
func TestEmptyLists(t *testing.T) {
	empty := []api.Item{}
	for _, x := range []api.Item{
		{Kind: 4, L: []api.Item{{N: 1, L: empty}, {L: empty}}},
		{Kind: 4, L: []api.Item{{N: 1, L: empty}, {Kind: 3, S: "//a/b", L: empty}}},
		{Kind: 4, L: []api.Item{{N: 2}, {Kind: 4, L: []api.Item{{N: 4, L: empty}, {N: 7, L: empty}}}}},
	} {
		if _, wrong := eid7.Name(x); wrong != api.OK {
			t.Errorf("Name(%v) tells %d", told(x), wrong)
		}
		wantRead(t, x)
	}
	wantNoItem(t, api.Item{Kind: 4})
	wantNoItem(t, api.Item{Kind: 4, L: empty})
	wantNoItem(t, list(num(2), api.Item{Kind: 4, L: empty}))
}

// roomy is the same item in lists that have spare room.
func roomy(x api.Item) api.Item {
	l := make([]api.Item, 0, len(x.L)+4)
	for _, y := range x.L {
		l = append(l, roomy(y))
	}
	x.L = l
	return x
}

// R3: what is handed in is not written into, nor its spare room, nor kept.
func TestHandedIn(t *testing.T) {
	for _, e := range []api.Eid{none(), dtn("a", "b"), ipn(4, 7)} {
		x := roomy(plainItem(e))
		got, wrong := eid7.Name(x)
		if !equal(x, plainItem(e)) {
			t.Errorf("handed in was %v", told(x))
		}
		for _, y := range nodes(&x) {
			for _, spare := range y.L[len(y.L):cap(y.L)] {
				if !equal(spare, api.Item{}) {
					t.Errorf("in the spare room stands %v", told(spare))
				}
			}
		}
		for _, y := range nodes(&x) {
			clear(y.L[:cap(y.L)])
		}
		if got != e || wrong != api.OK {
			t.Errorf("%v, %d", told(got), wrong)
		}
		wantName(t, e)
	}
}

// places are where an item's lists have room, spare room too.
func places(x api.Item) []*api.Item {
	var l []*api.Item
	room := x.L[:cap(x.L)]
	for i := range room {
		l = append(l, &room[i])
		l = append(l, places(room[i])...)
	}
	return l
}

// R3: what is answered is new memory, of which no two lists share any.
func TestAnswered(t *testing.T) {
	for _, e := range rightNames() {
		x, _ := eid7.Item(e)
		y, _ := eid7.Item(e)
		met := map[*api.Item]bool{}
		for _, p := range slices.Concat(places(x), places(y)) {
			if met[p] {
				t.Fatalf("two lists of Item(%v) share memory", told(e))
			}
			met[p] = true
		}
		for _, p := range places(x) {
			*p = textOf("other")
		}
		if !equal(y, plainItem(e)) {
			t.Errorf("Item(%v) has become %v", told(e), told(y))
		}
		wantName(t, e)
	}
}

// R4: calls leave nothing behind that another one could tell.
func TestKeepsNothing(t *testing.T) {
	wrong := wrongNames()
	for i, e := range rightNames() {
		wantNoName(t, wrong[i%len(wrong)])
		wantNoItem(t, list(num(1), textOf("none")))
		wantRefused(t, plainBytes(e), 1, wrongAt(plainBytes(e), 1))
		wantName(t, e)
		wantName(t, none())
		wantName(t, dtn("earth", "news"))
		wantName(t, ipn(4, 7))
	}
}

// wrongAt is the error of a place at which no name stands.
func wrongAt(s string, at int) api.Errno {
	if _, _, wrong := item.Decode(s, at); wrong != api.OK {
		return wrong
	}
	return api.ErrEid
}
