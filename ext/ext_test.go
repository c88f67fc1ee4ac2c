package ext_test

import (
	"fmt"
	"math"
	"math/rand"
	"reflect"
	"regexp"
	"slices"
	"strconv"
	"strings"
	"testing"

	"postrider/api"
	"postrider/ext"
)

func none() api.Eid { return api.Eid{} }

func dtn(node string, service string) api.Eid {
	return api.Eid{Scheme: api.Dtn, Node: node, Service: service}
}

func ipn(a int, b int) api.Eid { return api.Eid{Scheme: api.Ipn, A: a, B: b} }

func class(priority int, custody bool, custodian api.Eid) api.Class {
	return api.Class{Priority: priority, Custody: custody, Custodian: custodian}
}

// urgent is a class that is not plain, and its data.
func urgent() api.Class { return class(2, false, none()) }

const urgentData = "\x83\x02\x00\x82\x01\x00"

// six is a block of version 6, seven one of version 7.
func six(kind int, flags int, data string) api.Block {
	return api.Block{Type: kind, Flags: flags, Data: data}
}

func seven(kind int, num int, flags int, data string) api.Block {
	return api.Block{Type: kind, Num: num, Flags: flags, Data: data}
}

func load6() api.Block { return six(1, 8, "hi") }

func load7() api.Block { return seven(1, 1, 0, "hi") }

func blocks(l ...api.Block) []api.Block { return l }

// going are so many blocks that go up, the last one among them.
func going(count int) []api.Block {
	var l []api.Block
	for i := range count - 1 {
		l = append(l, six(20+i, i, strconv.Itoa(i)))
	}
	return append(l, load6())
}

// coming are so many blocks that go down, without one of a class.
func coming(count int) []api.Block {
	var l []api.Block
	for i := range count - 1 {
		l = append(l, seven(20+i, 2+i, i&7, strconv.Itoa(i)))
	}
	return append(l, load7())
}

// changed are the same blocks, but for what is done to one.
func changed(l []api.Block, place int, change func(b *api.Block)) []api.Block {
	l = slices.Clone(l)
	change(&l[place])
	return l
}

func plainTypeUp(t int) (int, api.Errno) {
	switch {
	case t < 1, t > 255, t == 6, t == 7, t == 10, t == 192:
		return 0, api.ErrType
	case t == 206:
		return 6, api.OK
	case t == 207:
		return 7, api.OK
	case t == 210:
		return 10, api.OK
	}
	return t, api.OK
}

func plainTypeDown(t int) (int, api.Errno) {
	switch {
	case t < 1, t > 255, t == 206, t == 207, t == 210, t == 192:
		return 0, api.ErrType
	case t == 6:
		return 206, api.OK
	case t == 7:
		return 207, api.OK
	case t == 10:
		return 210, api.OK
	}
	return t, api.OK
}

func plainMarkUp(f int) (int, api.Errno) {
	switch {
	case f < 0, f > 127:
		return 0, api.ErrArg
	case f/32%2 == 1:
		return 0, api.ErrPassed
	case f/64%2 == 1:
		return 0, api.ErrNamed
	case f/8%2 == 1:
		return f - 8, api.OK
	}
	return f, api.OK
}

func plainMarkDown(f int, last bool) (int, api.Errno) {
	switch {
	case f < 0, f > 31, f/8%2 == 1:
		return 0, api.ErrArg
	case last:
		return f + 8, api.OK
	}
	return f, api.OK
}

var (
	node    = regexp.MustCompile(`^[a-z0-9.-]{1,20}$`)
	service = regexp.MustCompile(`^[a-z0-9./-]{0,20}$`)
)

// plainRightName is what chapter 6 says of a right name.
func plainRightName(e api.Eid) bool {
	switch e.Scheme {
	case 0:
		return e == api.Eid{}
	case 1:
		return node.MatchString(e.Node) && service.MatchString(e.Service) && e.A == 0 && e.B == 0
	case 2:
		return 1 <= e.A && e.A <= 999999999 && 0 <= e.B && e.B <= 999999999 && e.Node == "" && e.Service == ""
	}
	return false
}

func plainRightClass(c api.Class) bool {
	return 0 <= c.Priority && c.Priority <= 2 && plainRightName(c.Custodian) && (c.Custody || c.Custodian == api.Eid{})
}

func isPlain(c api.Class) bool { return c.Priority == 0 && !c.Custody }

// plainHead is what stands ahead of an item, as chapter 3 says it, up to four bytes of an argument.
func plainHead(major int, n int) string {
	first := byte(major << 5)
	switch {
	case n < 24:
		return string([]byte{first + byte(n)})
	case n < 1<<8:
		return string([]byte{first + 24, byte(n)})
	case n < 1<<16:
		return string([]byte{first + 25, byte(n >> 8), byte(n)})
	}
	return string([]byte{first + 26, byte(n >> 24), byte(n >> 16), byte(n >> 8), byte(n)})
}

func plainName(e api.Eid) string {
	switch e.Scheme {
	case 0:
		return "\x82\x01\x00"
	case 1:
		text := "//" + e.Node + "/" + e.Service
		return "\x82\x01" + plainHead(3, len(text)) + text
	}
	return "\x82\x02\x82" + plainHead(0, e.A) + plainHead(0, e.B)
}

// plainData are a right class's data, as the chapter says them.
func plainData(c api.Class) string {
	custody := "\x00"
	if c.Custody {
		custody = "\x01"
	}
	return "\x83" + plainHead(0, c.Priority) + custody + plainName(c.Custodian)
}

// plainNumber is a number that stands in a text, however it is written, and what stands behind it.
func plainNumber(s string) (int, string) {
	if s == "" {
		return 0, ""
	}
	n, s := int(s[0]&31), s[1:]
	if n < 24 || n > 26 {
		return n, s
	}
	count := 1 << (n - 24)
	if len(s) < count {
		return 0, ""
	}
	n = 0
	for i := range count {
		n = n<<8 | int(s[i])
	}
	return n, s[count:]
}

// plainRead reads a class, and tells whether it is a right one that has just these data.
func plainRead(s string) (api.Class, api.Errno) {
	var c api.Class
	if len(s) < 5 {
		return c, api.ErrClass
	}
	c.Priority, c.Custody = int(s[1]), s[2] == 1
	switch {
	case s[4] == 2 && len(s) > 5:
		c.Custodian.Scheme = 2
		var rest string
		c.Custodian.A, rest = plainNumber(s[6:])
		c.Custodian.B, _ = plainNumber(rest)
	case s[4] == 1 && len(s) > 6:
		_, text := plainNumber(s[5:])
		at, service, _ := strings.Cut(strings.TrimPrefix(text, "//"), "/")
		c.Custodian = dtn(at, service)
	}
	if !plainRightClass(c) || plainData(c) != s {
		return api.Class{}, api.ErrClass
	}
	return c, api.OK
}

// numbered gives blocks the numbers of blocks that go up.
func numbered(l ...api.Block) []api.Block {
	l = slices.Clone(l)
	for i := range l {
		l[i].Num = 2 + i
	}
	l[len(l)-1].Num = 1
	return l
}

// plainUp is what the chapter says of blocks that go up, sentence by sentence.
func plainUp(l []api.Block, c api.Class) ([]api.Block, api.Errno) {
	switch {
	case !plainRightClass(c):
		return nil, api.ErrClass
	case len(l) < 1, len(l) > 8, !isPlain(c) && len(l) > 7:
		return nil, api.ErrBlocks
	}
	var gone []api.Block
	if !isPlain(c) {
		gone = append(gone, api.Block{Type: 192, Data: plainData(c)})
	}
	for _, b := range l {
		flags, wrong := plainMarkUp(b.Flags)
		if wrong != api.OK {
			return nil, wrong
		}
		if len(b.Refs) != 0 {
			return nil, api.ErrNamed
		}
		kind, wrong := plainTypeUp(b.Type)
		if wrong != api.OK {
			return nil, wrong
		}
		for _, before := range gone {
			if before.Type == kind && (kind == 6 || kind == 7 || kind == 10) {
				return nil, api.ErrTwice
			}
		}
		gone = append(gone, api.Block{Type: kind, Flags: flags, Data: b.Data})
	}
	return numbered(gone...), api.OK
}

// plainDown is what the chapter says of blocks that go down, sentence by sentence.
func plainDown(l []api.Block) ([]api.Block, api.Class, api.Errno) {
	var gone []api.Block
	var c api.Class
	if len(l) < 1 || len(l) > 8 {
		return nil, api.Class{}, api.ErrBlocks
	}
	for i, b := range l {
		last := i == len(l)-1
		wrong := plainPlace(b, i, last)
		if wrong != api.OK {
			return nil, api.Class{}, wrong
		}
		if i == 0 && !last && b.Type == 192 {
			c, wrong = plainRead(b.Data)
			if wrong != api.OK || isPlain(c) || b.Flags != 0 {
				return nil, api.Class{}, api.ErrClass
			}
			continue
		}
		flags, wrong := plainMarkDown(b.Flags, last)
		if wrong != api.OK {
			return nil, api.Class{}, wrong
		}
		kind, wrong := plainTypeDown(b.Type)
		if wrong != api.OK {
			return nil, api.Class{}, wrong
		}
		gone = append(gone, api.Block{Type: kind, Flags: flags, Data: b.Data})
	}
	return gone, c, api.OK
}

func plainPlace(b api.Block, place int, last bool) api.Errno {
	num := place + 2
	if last {
		num = 1
	}
	switch {
	case b.Num != num:
		return api.ErrOrder
	case b.Sum != 0:
		return api.ErrSum
	case len(b.Refs) != 0:
		return api.ErrNamed
	}
	return api.OK
}

// same tells whether blocks are: nil and empty lists are one.
func same(a []api.Block, b []api.Block) bool {
	return slices.EqualFunc(a, b, func(x api.Block, y api.Block) bool {
		return x.Type == y.Type && x.Num == y.Num && x.Flags == y.Flags && x.Sum == y.Sum && slices.Equal(x.Refs, y.Refs) && x.Data == y.Data
	})
}

// told keeps what is told of many blocks and long texts readable.
func told(x any) string {
	s := fmt.Sprintf("%+q", fmt.Sprint(x))
	return s[:min(len(s), 900)]
}

func wantTypes(t *testing.T, n int) {
	t.Helper()
	want, wrong := plainTypeUp(n)
	if got, e := ext.TypeUp(n); got != want || e != wrong {
		t.Errorf("TypeUp(%d) = %d, %d; want %d, %d", n, got, e, want, wrong)
	}
	want, wrong = plainTypeDown(n)
	if got, e := ext.TypeDown(n); got != want || e != wrong {
		t.Errorf("TypeDown(%d) = %d, %d; want %d, %d", n, got, e, want, wrong)
	}
}

func wantRead(t *testing.T, s string, want api.Class, wrong api.Errno) {
	t.Helper()
	if got, e := ext.Read(s); got != want || e != wrong {
		t.Errorf("Read(%s) = %s, %d; want %s, %d", told(s), told(got), e, told(want), wrong)
	}
}

func wantData(t *testing.T, c api.Class, want string, wrong api.Errno) {
	t.Helper()
	if got, e := ext.Data(c); got != want || e != wrong {
		t.Errorf("Data(%s) = %s, %d; want %s, %d", told(c), told(got), e, told(want), wrong)
	}
}

// wantClass holds all that is answered of a class, right or not, against what the chapter says.
func wantClass(t *testing.T, c api.Class) {
	t.Helper()
	if !plainRightClass(c) {
		wantData(t, c, "", api.ErrClass)
		return
	}
	wantData(t, c, plainData(c), api.OK)
	wantRead(t, plainData(c), c, api.OK)
}

// wantPlainRead wants of any bytes what the chapter says of them.
func wantPlainRead(t *testing.T, s string) {
	t.Helper()
	c, wrong := plainRead(s)
	wantRead(t, s, c, wrong)
}

func wantUp(t *testing.T, l []api.Block, c api.Class, want []api.Block, wrong api.Errno) {
	t.Helper()
	if got, e := ext.Up(l, c); !same(got, want) || e != wrong {
		t.Errorf("Up(%s, %s) = %s, %d; want %s, %d", told(l), told(c), told(got), e, told(want), wrong)
	}
}

func wantNoUp(t *testing.T, l []api.Block, c api.Class, wrong api.Errno) {
	t.Helper()
	wantUp(t, l, c, nil, wrong)
}

func wantDown(t *testing.T, l []api.Block, want []api.Block, c api.Class, wrong api.Errno) {
	t.Helper()
	if got, d, e := ext.Down(l); !same(got, want) || d != c || e != wrong {
		t.Errorf("Down(%s) = %s, %s, %d; want %s, %s, %d", told(l), told(got), told(d), e, told(want), told(c), wrong)
	}
}

func wantNoDown(t *testing.T, l []api.Block, wrong api.Errno) {
	t.Helper()
	wantDown(t, l, nil, api.Class{}, wrong)
}

// wantPlainUp and wantPlainDown want of any blocks what the chapter says of them.
func wantPlainUp(t *testing.T, l []api.Block, c api.Class) api.Errno {
	t.Helper()
	want, wrong := plainUp(l, c)
	wantUp(t, l, c, want, wrong)
	return wrong
}

func wantPlainDown(t *testing.T, l []api.Block) api.Errno {
	t.Helper()
	want, c, wrong := plainDown(l)
	wantDown(t, l, want, c, wrong)
	return wrong
}

// far are numbers far from all that are right: whatever is cut off of them, or wraps round, may leave one that is.
func far() []int {
	l := []int{math.MinInt, math.MaxInt, math.MaxInt - 255}
	for shift := 8; shift < 63; shift++ {
		l = append(l, 1<<shift, -1<<shift)
	}
	return l
}

// names are right ones, at the edges of their parts.
func names() []api.Eid {
	long := strings.Repeat("a", 20)
	return []api.Eid{
		none(), ipn(3, 0), ipn(1, 1), ipn(23, 24), ipn(24, 23), ipn(255, 256), ipn(256, 255), ipn(65535, 65536), ipn(65536, 65535), ipn(999999999, 999999999),
		dtn("a", ""), dtn("a", "b"), dtn("a", "/"), dtn("0.-z", "//0.-z/"), dtn(long, long), dtn(long, strings.Repeat("/", 20)), dtn("none", ""),
	}
}

// wrongNames are of no endpoint.
func wrongNames() []api.Eid {
	long := strings.Repeat("a", 21)
	return []api.Eid{
		{Scheme: -1}, {Scheme: 3}, {Scheme: 1 << 32}, {A: 1}, {B: 1}, {Node: "a"}, {Service: "a"}, {B: -1},
		dtn("", ""), dtn("", "a"), dtn("A", ""), dtn("a/b", ""), dtn("a", "_"), dtn(long, ""), dtn("a", long), dtn("a\x00", ""), dtn("a", "\x80"), dtn("ä", ""),
		{Scheme: 1, Node: "a", A: 1}, {Scheme: 1, Node: "a", B: 1}, {Scheme: 2, A: 1, Node: "a"}, {Scheme: 2, A: 1, Service: "a"},
		ipn(0, 0), ipn(0, 1), ipn(-1, 0), ipn(1, -1), ipn(1000000000, 0), ipn(1, 1000000000), ipn(math.MaxInt, 0), ipn(1, math.MinInt),
	}
}

// classes are right ones.
func classes() []api.Class {
	var l []api.Class
	for priority := range 3 {
		l = append(l, class(priority, false, none()))
		for _, e := range names() {
			l = append(l, class(priority, true, e))
		}
	}
	return l
}

// P14.1, P14.2: what the chapter's table says, and the examples of the whole.
func TestExamples(t *testing.T) {
	wantData(t, class(1, true, ipn(3, 0)), "\x83\x01\x01\x82\x02\x82\x03\x00", api.OK)
	wantRead(t, "\x83\x01\x01\x82\x02\x82\x03\x00", class(1, true, ipn(3, 0)), api.OK)
	wantUp(t, blocks(load6()), urgent(), blocks(seven(192, 2, 0, "\x83\x02\x00\x82\x01\x00"), load7()), api.OK)
}

// P14.1: types that go over as others, and such as do not go, written out.
func TestTypes(t *testing.T) {
	for n, want := range map[int]int{1: 1, 2: 2, 5: 5, 8: 8, 9: 9, 11: 11, 191: 191, 193: 193, 205: 205, 206: 6, 207: 7, 208: 208, 209: 209, 210: 10, 211: 211, 255: 255} {
		if got, e := ext.TypeUp(n); got != want || e != api.OK {
			t.Errorf("TypeUp(%d) = %d, %d; want %d", n, got, e, want)
		}
		if got, e := ext.TypeDown(want); got != n || e != api.OK {
			t.Errorf("TypeDown(%d) = %d, %d; want %d", want, got, e, n)
		}
	}
	for _, n := range []int{-1, 0, 6, 7, 10, 192, 256} {
		if got, e := ext.TypeUp(n); got != 0 || e != api.ErrType {
			t.Errorf("TypeUp(%d) = %d, %d", n, got, e)
		}
	}
	for _, n := range []int{-1, 0, 206, 207, 210, 192, 256} {
		if got, e := ext.TypeDown(n); got != 0 || e != api.ErrType {
			t.Errorf("TypeDown(%d) = %d, %d", n, got, e)
		}
	}
}

// P14.1: all types, and all numbers around them, and far from any.
func TestAllTypes(t *testing.T) {
	for n := -3000; n <= 3000; n++ {
		wantTypes(t, n)
	}
	for _, n := range far() {
		for beside := range 256 {
			wantTypes(t, n+beside)
			wantTypes(t, n-beside)
		}
	}
}

// P14.3: each type that goes comes back, and no two go to one.
func TestTypesThereAndBack(t *testing.T) {
	ups, downs := map[int]bool{}, map[int]bool{}
	for n := 1; n <= 255; n++ {
		if up, e := ext.TypeUp(n); e == api.OK {
			ups[up] = true
			if back, e := ext.TypeDown(up); back != n || e != api.OK {
				t.Errorf("%d goes up to %d, that down to %d, %d", n, up, back, e)
			}
		}
		if down, e := ext.TypeDown(n); e == api.OK {
			downs[down] = true
			if back, e := ext.TypeUp(down); back != n || e != api.OK {
				t.Errorf("%d goes down to %d, that up to %d, %d", n, down, back, e)
			}
		}
	}
	if len(ups) != 251 || len(downs) != 251 {
		t.Error(len(ups), len(downs))
	}
}

// P14.1: classes, written out.
func TestClasses(t *testing.T) {
	for s, c := range map[string]api.Class{
		"\x83\x00\x00\x82\x01\x00":                                         {},
		"\x83\x01\x00\x82\x01\x00":                                         class(1, false, none()),
		"\x83\x02\x00\x82\x01\x00":                                         class(2, false, none()),
		"\x83\x00\x01\x82\x01\x00":                                         class(0, true, none()),
		"\x83\x02\x01\x82\x01\x65//a/b":                                    class(2, true, dtn("a", "b")),
		"\x83\x00\x01\x82\x01\x64//a/":                                     class(0, true, dtn("a", "")),
		"\x83\x00\x01\x82\x02\x82\x18\x18\x19\x01\x00":                     class(0, true, ipn(24, 256)),
		"\x83\x01\x01\x82\x02\x82\x1a\x3b\x9a\xc9\xff\x1a\x3b\x9a\xc9\xff": class(1, true, ipn(999999999, 999999999)),
	} {
		wantData(t, c, s, api.OK)
		wantRead(t, s, c, api.OK)
	}
	for _, c := range []api.Class{
		class(-1, false, none()), class(3, false, none()), class(3, true, ipn(3, 0)), class(0, false, ipn(3, 0)), class(2, false, dtn("a", "")), class(0, true, dtn("", "")), class(1, true, ipn(0, 0)), class(0, false, api.Eid{A: 1}), class(0, true, api.Eid{B: 1}),
	} {
		wantData(t, c, "", api.ErrClass)
	}
}

// P14.1: priorities, with custody and without, and custodians, each with each.
func TestAllClasses(t *testing.T) {
	priorities := []int{}
	for n := -300; n <= 300; n++ {
		priorities = append(priorities, n)
	}
	for _, n := range far() {
		priorities = append(priorities, n, n+1, n+2)
	}
	for _, e := range append(names(), wrongNames()...) {
		for _, n := range priorities {
			wantClass(t, class(n, false, e))
			wantClass(t, class(n, true, e))
		}
	}
}

// P14.1: bytes that are no class's, written out.
func TestReadNone(t *testing.T) {
	for _, s := range []string{
		"", "\x00", "\x83", "\x80", "\x60", "\x82\x00\x00", "\x84\x00\x00\x82\x01\x00\x00", "\x83\x00\x00\x82\x01", "\x83\x00\x00\x82\x01\x00\x00", "\x83\x00\x00\x00",
		"\x83\x03\x00\x82\x01\x00", "\x83\x18\x18\x00\x82\x01\x00", "\x83\x00\x02\x82\x01\x00", "\x83\x00\x18\x18\x82\x01\x00", "\x83\x00\x00\x82\x02\x82\x03\x00", "\x83\x00\x00\x82\x01\x64//a/",
		"\x83\x00\x01\x82\x01\x01", "\x83\x00\x01\x82\x00\x00", "\x83\x00\x01\x82\x02\x00", "\x83\x00\x01\x82\x01\x64none", "\x83\x00\x01\x82\x02\x82\x00\x00", "\x83\x00\x01\x82\x02\x81\x03", "\x83\x00\x01\x82\x02\x83\x03\x00\x00",
		"\x83\x18\x01\x00\x82\x01\x00", "\x83\x00\x18\x01\x82\x01\x00", "\x98\x03\x00\x00\x82\x01\x00", "\x9f\x00\x00\x82\x01\x00\xff", "\x83\x40\x00\x82\x01\x00", "\x83\x00\x40\x82\x01\x00", "\x83\x00\x80\x82\x01\x00", "\x83\x80\x00\x82\x01\x00", "\x83\x60\x60\x82\x01\x00", "\x83\x20\x00\x82\x01\x00", "\x83\xf4\x00\x82\x01\x00", "\x83\x00\xf5\x82\x01\x00",
	} {
		wantRead(t, s, api.Class{}, api.ErrClass)
	}
}

// P14.1: whatever byte is put into a class's data, taken out, or another one.
func TestReadChanged(t *testing.T) {
	t.Parallel()
	for _, c := range classes() {
		s := plainData(c)
		for i := range len(s) {
			wantPlainRead(t, s[:i])
			wantPlainRead(t, s[i:])
			wantPlainRead(t, s[:i]+s[i+1:])
			for other := range 256 {
				wantPlainRead(t, s[:i]+string([]byte{byte(other)})+s[i:])
				wantPlainRead(t, s[:i]+string([]byte{byte(other)})+s[i+1:])
			}
		}
		for other := range 256 {
			wantPlainRead(t, s+string([]byte{byte(other)}))
		}
		wantPlainRead(t, s+s)
	}
}

// P14.1: any pieces, one behind the other.
func TestReadPieces(t *testing.T) {
	pieces := []string{"\x83", "\x82", "\x81", "\x80", "\x00", "\x01", "\x02", "\x03", "\x18\x01", "\x40", "\x64none", "\x64//a/", "\x82\x01\x00", "\x82\x02\x82\x03\x00"}
	var lay func(s string, left int)
	lay = func(s string, left int) {
		wantPlainRead(t, s)
		if left == 0 {
			return
		}
		for _, p := range pieces {
			lay(s+p, left-1)
		}
	}
	lay("", 4)
	lay("\x83", 4)
	lay("\x83\x00\x01", 3)
}

// P14.2: blocks that go up, written out.
func TestUp(t *testing.T) {
	c := class(1, true, ipn(3, 0))
	own := "\x83\x01\x01\x82\x02\x82\x03\x00"
	wantUp(t, blocks(load6()), api.Class{}, blocks(load7()), api.OK)
	wantUp(t, blocks(load6()), c, blocks(seven(192, 2, 0, own), load7()), api.OK)
	wantUp(t, blocks(load6()), class(0, true, none()), blocks(seven(192, 2, 0, "\x83\x00\x01\x82\x01\x00"), load7()), api.OK)
	wantUp(t, blocks(load6()), class(1, false, none()), blocks(seven(192, 2, 0, "\x83\x01\x00\x82\x01\x00"), load7()), api.OK)
	wantUp(t, blocks(six(206, 23, "a"), six(207, 0, ""), six(210, 1, "c"), six(5, 0, "d"), six(5, 0, "d"), load6()), c,
		blocks(seven(192, 2, 0, own), seven(6, 3, 23, "a"), seven(7, 4, 0, ""), seven(10, 5, 1, "c"), seven(5, 6, 0, "d"), seven(5, 7, 0, "d"), load7()), api.OK)
}

// P14.2: what no rule of going up asks for: other numbers and sums, Last anywhere, any type last, and much data.
func TestUpAsIs(t *testing.T) {
	much := strings.Repeat("\x00", 601)
	l := blocks(api.Block{Type: 1, Num: 9, Flags: 8, Sum: -1, Refs: []api.Eid{}, Data: much}, api.Block{Type: 206, Num: 1, Flags: 1, Sum: 2})
	wantUp(t, l, api.Class{}, blocks(seven(1, 2, 0, much), seven(6, 1, 1, "")), api.OK)
}

// P14.2: each error of going up alone.
func TestUpErrors(t *testing.T) {
	for place := range 3 {
		for wrong, change := range map[api.Errno]func(b *api.Block){
			api.ErrArg:    func(b *api.Block) { b.Flags = 128 },
			api.ErrPassed: func(b *api.Block) { b.Flags = 32 },
			api.ErrNamed:  func(b *api.Block) { b.Refs = []api.Eid{none()} },
			api.ErrType:   func(b *api.Block) { b.Type = 192 },
		} {
			wantNoUp(t, changed(going(3), place, change), api.Class{}, wrong)
			wantNoUp(t, changed(going(3), place, change), urgent(), wrong)
		}
		wantNoUp(t, changed(going(3), place, func(b *api.Block) { b.Flags = 64 }), api.Class{}, api.ErrNamed)
		wantNoUp(t, changed(going(3), place, func(b *api.Block) { b.Refs, b.Flags = []api.Eid{ipn(1, 0)}, 64 }), api.Class{}, api.ErrNamed)
	}
	wantNoUp(t, going(2), class(3, false, none()), api.ErrClass)
	wantNoUp(t, going(2), class(0, false, ipn(3, 0)), api.ErrClass)
	wantNoUp(t, nil, api.Class{}, api.ErrBlocks)
	wantNoUp(t, going(9), api.Class{}, api.ErrBlocks)
	wantNoUp(t, going(8), urgent(), api.ErrBlocks)
	wantNoUp(t, blocks(six(207, 0, "a"), six(207, 0, "a"), load6()), api.Class{}, api.ErrTwice)
}

// P14.2, R1: of several errors of going up the first one.
func TestUpWhichError(t *testing.T) {
	refs := []api.Eid{none()}
	wantNoUp(t, nil, class(3, false, none()), api.ErrClass)
	wantNoUp(t, blocks(six(0, 128, "")), class(-1, false, none()), api.ErrClass)
	wantNoUp(t, make([]api.Block, 9), api.Class{}, api.ErrBlocks)
	wantNoUp(t, make([]api.Block, 8), urgent(), api.ErrBlocks)
	wantNoUp(t, blocks(api.Block{Flags: 128 + 32 + 64, Refs: refs}), api.Class{}, api.ErrArg)
	wantNoUp(t, blocks(api.Block{Flags: 32 + 64, Refs: refs}), api.Class{}, api.ErrPassed)
	wantNoUp(t, blocks(api.Block{Refs: refs}), api.Class{}, api.ErrNamed)
	wantNoUp(t, blocks(six(6, 0, ""), six(5, 128, "")), api.Class{}, api.ErrType)
	wantNoUp(t, blocks(six(5, 0, ""), six(6, 32, ""), six(5, 128, "")), api.Class{}, api.ErrPassed)
	wantNoUp(t, blocks(six(206, 0, ""), six(206, 32, "")), api.Class{}, api.ErrPassed)
	wantNoUp(t, blocks(six(206, 0, ""), api.Block{Type: 206, Refs: refs}), api.Class{}, api.ErrNamed)
	wantNoUp(t, blocks(six(206, 0, ""), six(206, 0, ""), six(0, 128, "")), api.Class{}, api.ErrTwice)
	wantNoUp(t, blocks(six(206, 0, ""), six(0, 0, ""), six(206, 0, "")), api.Class{}, api.ErrType)
}

// P14.2: how many blocks go up, with each class.
func TestHowManyUp(t *testing.T) {
	for count := 1; count <= 20; count++ {
		for _, c := range append(classes(), class(3, false, none())) {
			wantPlainUp(t, going(count), c)
		}
	}
	for _, c := range classes() {
		for _, l := range [][]api.Block{nil, {}} {
			wantNoUp(t, l, c, api.ErrBlocks)
		}
		most := 8
		if !isPlain(c) {
			most = 7
		}
		if got, e := ext.Up(going(most), c); len(got) != 8 || e != api.OK {
			t.Error(c, got, e)
		}
	}
}

// P14.2: all types and flags, of a block that goes up, at each place.
func TestUpBlocks(t *testing.T) {
	for place := range 4 {
		for kind := -2; kind <= 258; kind++ {
			for _, flags := range []int{0, 31, 32, 64, 128, -1} {
				l := changed(going(4), place, func(b *api.Block) { b.Type, b.Flags = kind, flags })
				wantPlainUp(t, l, api.Class{})
				wantPlainUp(t, l, urgent())
			}
		}
		for flags := -300; flags <= 300; flags++ {
			wantPlainUp(t, changed(going(4), place, func(b *api.Block) { b.Flags = flags }), urgent())
		}
		for _, n := range far() {
			wantPlainUp(t, changed(going(4), place, func(b *api.Block) { b.Flags = n + 8 }), api.Class{})
			wantPlainUp(t, changed(going(4), place, func(b *api.Block) { b.Type = n + 206 }), api.Class{})
		}
	}
}

// P14.2: of some types no second one goes up, wherever both stand, and whatever stands between.
func TestUpTwice(t *testing.T) {
	for kind := 1; kind <= 255; kind++ {
		for second := range 7 {
			for first := range second {
				l := changed(going(7), first, func(b *api.Block) { b.Type = kind })
				l = changed(l, second, func(b *api.Block) { b.Type, b.Data = kind, "other" })
				wantPlainUp(t, l, api.Class{})
				wantPlainUp(t, l, urgent())
			}
		}
	}
	wantUp(t, blocks(six(206, 0, ""), six(207, 0, ""), six(210, 0, "")), api.Class{}, blocks(seven(6, 2, 0, ""), seven(7, 3, 0, ""), seven(10, 1, 0, "")), api.OK)
	wantNoUp(t, blocks(six(206, 0, ""), six(207, 0, ""), six(210, 0, ""), six(206, 0, "")), api.Class{}, api.ErrTwice)
	wantNoUp(t, blocks(six(206, 0, ""), six(207, 0, ""), six(210, 0, ""), six(207, 0, "")), api.Class{}, api.ErrTwice)
	wantNoUp(t, blocks(six(206, 0, ""), six(207, 0, ""), six(210, 0, ""), six(210, 0, "")), api.Class{}, api.ErrTwice)
}

// P14.2: blocks that go down, written out.
func TestDown(t *testing.T) {
	c := class(1, true, ipn(3, 0))
	own := "\x83\x01\x01\x82\x02\x82\x03\x00"
	wantDown(t, blocks(load7()), blocks(load6()), api.Class{}, api.OK)
	wantDown(t, blocks(seven(192, 2, 0, own), load7()), blocks(load6()), c, api.OK)
	wantDown(t, blocks(seven(192, 2, 0, urgentData), load7()), blocks(load6()), urgent(), api.OK)
	wantDown(t, blocks(seven(192, 2, 0, "\x83\x00\x01\x82\x01\x00"), load7()), blocks(load6()), class(0, true, none()), api.OK)
	wantDown(t, blocks(seven(192, 2, 0, own), seven(6, 3, 23, "a"), seven(7, 4, 0, ""), seven(10, 5, 1, "c"), seven(5, 6, 0, "d"), seven(5, 7, 0, "d"), seven(1, 1, 23, "hi")),
		blocks(six(206, 23, "a"), six(207, 0, ""), six(210, 1, "c"), six(5, 0, "d"), six(5, 0, "d"), six(1, 31, "hi")), c, api.OK)
}

// P14.2: what no rule of going down asks for: types that only one block may have, any type last, and much data.
func TestDownAsIs(t *testing.T) {
	much := strings.Repeat("\x00", 601)
	wantDown(t, blocks(seven(6, 2, 0, much), seven(6, 3, 0, ""), api.Block{Type: 1, Num: 4, Refs: []api.Eid{}}, seven(10, 1, 0, "")),
		blocks(six(206, 0, much), six(206, 0, ""), six(1, 0, ""), six(210, 8, "")), api.Class{}, api.OK)
}

// P14.2: each error of going down alone, of the class's block too.
func TestDownErrors(t *testing.T) {
	classed := numbered(seven(192, 0, 0, urgentData), seven(5, 0, 0, "a"), load7())
	for place := range 3 {
		for wrong, change := range map[api.Errno]func(b *api.Block){
			api.ErrOrder: func(b *api.Block) { b.Num++ },
			api.ErrSum:   func(b *api.Block) { b.Sum = 1 },
			api.ErrNamed: func(b *api.Block) { b.Refs = []api.Eid{none()} },
		} {
			wantNoDown(t, changed(coming(3), place, change), wrong)
			wantNoDown(t, changed(classed, place, change), wrong)
		}
		wantNoDown(t, changed(coming(3), place, func(b *api.Block) { b.Flags = 8 }), api.ErrArg)
		wantNoDown(t, changed(coming(3), place, func(b *api.Block) { b.Type = 206 }), api.ErrType)
	}
	wantNoDown(t, nil, api.ErrBlocks)
	wantNoDown(t, coming(9), api.ErrBlocks)
	wantNoDown(t, changed(classed, 0, func(b *api.Block) { b.Flags = 1 }), api.ErrClass)
	wantNoDown(t, changed(classed, 0, func(b *api.Block) { b.Flags = 8 }), api.ErrClass)
	wantNoDown(t, changed(classed, 0, func(b *api.Block) { b.Data = "" }), api.ErrClass)
	wantNoDown(t, changed(classed, 0, func(b *api.Block) { b.Data = urgentData + "\x00" }), api.ErrClass)
	// A plain class is told by no block.
	wantNoDown(t, changed(classed, 0, func(b *api.Block) { b.Data = "\x83\x00\x00\x82\x01\x00" }), api.ErrClass)
	wantNoDown(t, changed(classed, 1, func(b *api.Block) { b.Type, b.Data = 192, urgentData }), api.ErrType)
	wantNoDown(t, changed(classed, 2, func(b *api.Block) { b.Type, b.Data = 192, urgentData }), api.ErrType)
	wantNoDown(t, blocks(seven(5, 2, 0, ""), seven(192, 3, 0, urgentData), load7()), api.ErrType)
	wantNoDown(t, blocks(seven(192, 1, 0, urgentData)), api.ErrType)
	wantNoDown(t, blocks(seven(192, 1, 8, "")), api.ErrArg)
}

// P14.2, R1: of several errors of going down the first one.
func TestDownWhichError(t *testing.T) {
	refs := []api.Eid{none()}
	wantNoDown(t, make([]api.Block, 9), api.ErrBlocks)
	wantNoDown(t, blocks(api.Block{Type: 0, Num: 2, Flags: 8, Sum: 1, Refs: refs}), api.ErrOrder)
	wantNoDown(t, blocks(api.Block{Type: 0, Num: 1, Flags: 8, Sum: 1, Refs: refs}), api.ErrSum)
	wantNoDown(t, blocks(api.Block{Type: 0, Num: 1, Flags: 8, Refs: refs}), api.ErrNamed)
	wantNoDown(t, blocks(api.Block{Type: 0, Num: 1, Flags: 8}), api.ErrArg)
	wantNoDown(t, blocks(api.Block{Type: 192, Num: 3, Flags: 8, Sum: 1, Refs: refs}, load7()), api.ErrOrder)
	wantNoDown(t, blocks(api.Block{Type: 192, Num: 2, Flags: 8, Sum: 1, Refs: refs}, load7()), api.ErrSum)
	wantNoDown(t, blocks(api.Block{Type: 192, Num: 2, Flags: 8, Refs: refs}, load7()), api.ErrNamed)
	wantNoDown(t, blocks(seven(192, 2, 8, ""), api.Block{}), api.ErrClass)
	wantNoDown(t, blocks(seven(192, 2, 0, urgentData), api.Block{}), api.ErrOrder)
	wantNoDown(t, blocks(seven(206, 2, 0, ""), api.Block{}), api.ErrType)
	wantNoDown(t, blocks(seven(5, 2, 8, ""), seven(0, 1, 0, "")), api.ErrArg)
	wantNoDown(t, blocks(seven(5, 2, 0, ""), seven(5, 4, 0, ""), seven(0, 1, 8, "")), api.ErrOrder)
}

// P14.2: how many blocks go down, with one of a class and without.
func TestHowManyDown(t *testing.T) {
	for count := 1; count <= 20; count++ {
		wantPlainDown(t, coming(count))
		for _, c := range classes() {
			wantPlainDown(t, numbered(append(blocks(seven(192, 0, 0, plainData(c))), coming(count)...)...))
		}
	}
	if got, c, e := ext.Down(coming(8)); len(got) != 8 || c != (api.Class{}) || e != api.OK {
		t.Error(got, c, e)
	}
	l := numbered(append(blocks(seven(192, 0, 0, urgentData)), coming(7)...)...)
	if got, c, e := ext.Down(l); len(got) != 7 || c != urgent() || e != api.OK {
		t.Error(got, c, e)
	}
	for _, l := range [][]api.Block{nil, {}} {
		wantNoDown(t, l, api.ErrBlocks)
	}
}

// P14.2: all types, flags, numbers and sums, of a block that goes down, at each place.
func TestDownBlocks(t *testing.T) {
	classed := numbered(seven(192, 0, 0, urgentData), seven(5, 0, 1, "a"), seven(6, 0, 2, urgentData), load7())
	for _, l := range [][]api.Block{coming(4), classed} {
		for place := range 4 {
			for kind := -2; kind <= 258; kind++ {
				for _, flags := range []int{0, 8, 23, 24, 32, -1} {
					wantPlainDown(t, changed(l, place, func(b *api.Block) { b.Type, b.Flags = kind, flags }))
				}
			}
			for n := -300; n <= 300; n++ {
				wantPlainDown(t, changed(l, place, func(b *api.Block) { b.Flags = n }))
				wantPlainDown(t, changed(l, place, func(b *api.Block) { b.Num = n }))
				wantPlainDown(t, changed(l, place, func(b *api.Block) { b.Sum = n }))
			}
			for _, n := range far() {
				wantPlainDown(t, changed(l, place, func(b *api.Block) { b.Flags = n }))
				wantPlainDown(t, changed(l, place, func(b *api.Block) { b.Type += n }))
				wantPlainDown(t, changed(l, place, func(b *api.Block) { b.Num += n }))
				wantPlainDown(t, changed(l, place, func(b *api.Block) { b.Sum = n }))
			}
		}
	}
}

// P14.2: the numbers of blocks that go down, of each count, also those of blocks without the class's one.
func TestDownNums(t *testing.T) {
	for count := 1; count <= 8; count++ {
		l := coming(count)
		for i := range l {
			for j := range l {
				other := slices.Clone(l)
				other[i].Num, other[j].Num = l[j].Num, l[i].Num
				wantPlainDown(t, other)
			}
		}
	}
	wantNoDown(t, blocks(seven(192, 2, 0, urgentData), seven(5, 2, 0, ""), load7()), api.ErrOrder)
	wantNoDown(t, blocks(seven(192, 1, 0, urgentData), load7()), api.ErrOrder)
	wantNoDown(t, blocks(seven(5, 1, 0, ""), seven(1, 2, 0, "")), api.ErrOrder)
}

// P14.2: whatever byte is put into the data of the class's block, taken out, or another one.
func TestDownClassChanged(t *testing.T) {
	for _, c := range []api.Class{{}, urgent(), class(0, true, none()), class(1, true, ipn(3, 0)), class(2, true, dtn("a", "b"))} {
		s := plainData(c)
		for i := range len(s) {
			wantPlainDown(t, blocks(seven(192, 2, 0, s[:i]), load7()))
			for other := range 256 {
				wantPlainDown(t, blocks(seven(192, 2, 0, s[:i]+string([]byte{byte(other)})+s[i+1:]), load7()))
				wantPlainDown(t, blocks(seven(192, 2, 0, s[:i]+string([]byte{byte(other)})+s[i:]), load7()))
			}
		}
	}
}

func pick[T any](r *rand.Rand, l ...T) T { return l[r.Intn(len(l))] }

func randomClass(r *rand.Rand) api.Class {
	c := class(r.Intn(3), r.Intn(2) == 0, none())
	if c.Custody || r.Intn(20) == 0 {
		c.Custodian = pick(r, names()...)
	}
	if r.Intn(30) == 0 {
		c.Priority = r.Intn(7) - 3
	}
	return c
}

// randomSix are blocks that often go up.
func randomSix(r *rand.Rand) []api.Block {
	l := make([]api.Block, r.Intn(9))
	for i := range l {
		l[i] = six(pick(r, 1+r.Intn(255), 206, 207, 210), r.Intn(32), pick(r, "", "a", "\x00\xff", urgentData))
		if r.Intn(40) == 0 {
			l[i].Flags = r.Intn(260) - 2
		}
		if r.Intn(40) == 0 {
			l[i].Type = r.Intn(260) - 2
		}
		if r.Intn(60) == 0 {
			l[i].Refs = make([]api.Eid, r.Intn(4))
		}
		if r.Intn(20) == 0 {
			l[i].Num, l[i].Sum = r.Intn(4), r.Intn(4)
		}
	}
	return l
}

// randomSeven are blocks that often go down.
func randomSeven(r *rand.Rand) []api.Block {
	l := make([]api.Block, 1+r.Intn(9))
	for i := range l {
		l[i] = seven(pick(r, 1+r.Intn(255), 6, 7, 10), 0, r.Intn(32)&23, pick(r, "", "a", "\x00\xff", urgentData))
		if r.Intn(30) == 0 {
			l[i].Flags = r.Intn(260) - 2
		}
		if r.Intn(60) == 0 {
			l[i].Refs = make([]api.Eid, r.Intn(4))
		}
		if r.Intn(60) == 0 {
			l[i].Sum = r.Intn(4)
		}
	}
	if r.Intn(2) == 0 {
		l[0] = seven(192, 0, 0, pick(r, urgentData, plainData(class(1, true, pick(r, names()...)))))
		if r.Intn(20) == 0 {
			l[0].Flags, l[0].Data = r.Intn(2), pick(r, urgentData, plainData(api.Class{}), "", "\x80")
		}
	}
	l = numbered(l...)
	if r.Intn(20) == 0 {
		l[r.Intn(len(l))].Num = r.Intn(12)
	}
	return l
}

// P14.2: any blocks that go up, and such as do not.
func TestRandomUp(t *testing.T) {
	t.Parallel()
	r := rand.New(rand.NewSource(14))
	count := map[api.Errno]int{}
	for range 200000 {
		count[wantPlainUp(t, randomSix(r), randomClass(r))]++
	}
	for _, e := range []api.Errno{api.OK, api.ErrArg, api.ErrPassed, api.ErrNamed, api.ErrType, api.ErrClass, api.ErrBlocks, api.ErrTwice} {
		if count[e] < 500 {
			t.Error("seldom told", e, count[e])
		}
	}
}

// P14.2: any blocks that go down, and such as do not.
func TestRandomDown(t *testing.T) {
	t.Parallel()
	r := rand.New(rand.NewSource(1414))
	count := map[api.Errno]int{}
	for range 200000 {
		count[wantPlainDown(t, randomSeven(r))]++
	}
	for _, e := range []api.Errno{api.OK, api.ErrArg, api.ErrNamed, api.ErrType, api.ErrClass, api.ErrBlocks, api.ErrOrder, api.ErrSum} {
		if count[e] < 100 {
			t.Error("seldom told", e, count[e])
		}
	}
}

// lastOnly are blocks as a bundle of version 6 has them: Last in the last one alone, Num and Sum 0.
func lastOnly(l []api.Block) []api.Block {
	l = slices.Clone(l)
	for i := range l {
		l[i].Num, l[i].Sum, l[i].Flags = 0, 0, l[i].Flags&^8
	}
	if len(l) > 0 {
		l[len(l)-1].Flags |= 8
	}
	return l
}

// P14.3: what goes up comes down as it was, with its class.
func TestUpAndDown(t *testing.T) {
	t.Parallel()
	for _, c := range classes() {
		for count := 1; count <= 7; count++ {
			l := lastOnly(going(count))
			up, e := ext.Up(l, c)
			if e != api.OK {
				t.Error(l, c, e)
			}
			wantDown(t, up, l, c, api.OK)
		}
	}
	r := rand.New(rand.NewSource(141))
	gone := 0
	for range 100000 {
		l, c := lastOnly(randomSix(r)), randomClass(r)
		if up, e := ext.Up(l, c); e == api.OK {
			gone++
			wantDown(t, up, l, c, api.OK)
		}
	}
	if gone < 20000 {
		t.Error("seldom gone up", gone)
	}
}

// onceOnly tells whether of 6, 7 and 10 none is there twice.
func onceOnly(l []api.Block) bool {
	count := map[int]int{}
	for _, b := range l {
		count[b.Type]++
	}
	return count[6] < 2 && count[7] < 2 && count[10] < 2
}

// P14.3: what comes down goes up as it was, if of 6, 7 and 10 none is there twice.
func TestDownAndUp(t *testing.T) {
	t.Parallel()
	r := rand.New(rand.NewSource(1441))
	gone, twice := 0, 0
	for range 100000 {
		l := randomSeven(r)
		down, c, e := ext.Down(l)
		if e != api.OK {
			continue
		}
		if onceOnly(l) {
			gone++
			wantUp(t, down, c, l, api.OK)
		} else {
			twice++
			wantNoUp(t, down, c, api.ErrTwice)
		}
	}
	if gone < 10000 || twice < 1000 {
		t.Error("seldom come down", gone, twice)
	}
}

// R1: much of anything, and wrong ones of all kinds.
func TestMuch(t *testing.T) {
	t.Parallel()
	long := strings.Repeat("\x82", 1<<20)
	wantRead(t, long, api.Class{}, api.ErrClass)
	wantRead(t, urgentData+long, api.Class{}, api.ErrClass)
	wantRead(t, "\x83"+strings.Repeat("\x00", 1<<20), api.Class{}, api.ErrClass)
	for _, ahead := range []string{"\x9b\x00\x00\xff\xff\xff\xff\xff\xff", "\x83\x5b\x00\x00\xff\xff\xff\xff\xff\xff", "\x83\x00\x01\x82\x01\x7a\xff\xff\xff\xff"} {
		wantRead(t, ahead, api.Class{}, api.ErrClass)
		wantRead(t, ahead+long, api.Class{}, api.ErrClass)
	}
	wantData(t, class(0, true, dtn(long, long)), "", api.ErrClass)
	wantNoUp(t, going(1<<20), api.Class{}, api.ErrBlocks)
	wantNoDown(t, coming(1<<20), api.ErrBlocks)
	wantNoUp(t, blocks(api.Block{Type: 1, Refs: make([]api.Eid, 1<<20)}), api.Class{}, api.ErrNamed)
	wantNoDown(t, blocks(api.Block{Type: 1, Num: 1, Refs: make([]api.Eid, 1<<20)}), api.ErrNamed)
	wantUp(t, blocks(six(1, 8, long)), urgent(), blocks(seven(192, 2, 0, urgentData), seven(1, 1, 0, long)), api.OK)
	wantDown(t, blocks(seven(1, 1, 0, long)), blocks(six(1, 8, long)), api.Class{}, api.OK)
	wantNoDown(t, blocks(seven(192, 2, 0, long), load7()), api.ErrClass)
}

// R3: nil and empty lists are one, handed in.
func TestEmptyLists(t *testing.T) {
	empty := func(b *api.Block) { b.Refs = make([]api.Eid, 0, 3) }
	wantUp(t, changed(going(2), 0, empty), api.Class{}, blocks(seven(20, 2, 0, "0"), load7()), api.OK)
	wantDown(t, changed(coming(2), 1, empty), blocks(six(20, 0, "0"), load6()), api.Class{}, api.OK)
}

// roomy are the same blocks with spare room behind them, and behind their names.
func roomy(l []api.Block) []api.Block {
	l = append(make([]api.Block, 0, 20), l...)
	for i := range l {
		l[i].Refs = make([]api.Eid, 0, 20)
	}
	return l
}

// wantUntouched wants of blocks with spare room that they are as they were, and nothing in that room.
func wantUntouched(t *testing.T, got []api.Block, want []api.Block) {
	t.Helper()
	if !same(got, want) {
		t.Errorf("handed in was %s; it was %s", told(got), told(want))
	}
	for _, b := range got[len(got):cap(got)] {
		if !reflect.DeepEqual(b, api.Block{}) {
			t.Errorf("in the spare room stands %s", told(b))
		}
	}
	for _, b := range got {
		for _, e := range b.Refs[:20] {
			if e != none() {
				t.Errorf("in the spare room stands %s", told(e))
			}
		}
	}
}

// R3: what is handed in is not written into, nor its spare room, nor kept.
func TestHandedIn(t *testing.T) {
	for _, c := range []api.Class{{}, urgent()} {
		l := roomy(going(5))
		up, _ := ext.Up(l, c)
		wantUntouched(t, l, going(5))
		want, _ := plainUp(going(5), c)
		clear(l[:cap(l)])
		if !same(up, want) {
			t.Errorf("an answer changed: %s", told(up))
		}
		m := roomy(want)
		down, _, _ := ext.Down(m)
		wantUntouched(t, m, want)
		want, _, _ = plainDown(want)
		clear(m[:cap(m)])
		if !same(down, want) {
			t.Errorf("an answer changed: %s", told(down))
		}
	}
	l := roomy(changed(going(5), 3, func(b *api.Block) { b.Type = 6 }))
	wantNoUp(t, l, urgent(), api.ErrType)
	wantUntouched(t, l, changed(going(5), 3, func(b *api.Block) { b.Type = 6 }))
}

// R3: what is answered is new memory each time, spare room too.
func TestAnswered(t *testing.T) {
	for count := 1; count <= 7; count++ {
		for _, c := range []api.Class{{}, urgent()} {
			up, _ := ext.Up(going(count), c)
			other, _ := ext.Up(going(count), c)
			clear(up[:cap(up)])
			want, _ := plainUp(going(count), c)
			if !same(other, want) {
				t.Errorf("two answers share memory: %s", told(other))
			}
			down, _, _ := ext.Down(want)
			more, _, _ := ext.Down(want)
			clear(down[:cap(down)])
			if wanted, _, _ := plainDown(want); !same(more, wanted) {
				t.Errorf("two answers share memory: %s", told(more))
			}
		}
	}
}

// R4: calls leave nothing behind that another one could tell.
func TestKeepsNothing(t *testing.T) {
	l := blocks(six(206, 0, "a"), six(207, 0, "b"), load6())
	want := blocks(seven(6, 2, 0, "a"), seven(7, 3, 0, "b"), load7())
	for range 3 {
		wantUp(t, l, api.Class{}, want, api.OK)
		wantDown(t, want, l, api.Class{}, api.OK)
		wantNoUp(t, append(l, l...), api.Class{}, api.ErrTwice)
		wantUp(t, blocks(load6()), urgent(), blocks(seven(192, 2, 0, urgentData), load7()), api.OK)
		wantDown(t, blocks(seven(192, 2, 0, urgentData), load7()), blocks(load6()), urgent(), api.OK)
		wantDown(t, blocks(load7()), blocks(load6()), api.Class{}, api.OK)
		wantNoDown(t, blocks(seven(192, 2, 0, urgentData), load6()), api.ErrOrder)
		wantData(t, class(3, false, none()), "", api.ErrClass)
		wantData(t, urgent(), urgentData, api.OK)
		wantRead(t, "", api.Class{}, api.ErrClass)
		wantRead(t, urgentData, urgent(), api.OK)
	}
}
