package seven_test

import (
	"encoding/binary"
	"fmt"
	"hash/crc32"
	"math"
	"math/rand"
	"reflect"
	"slices"
	"strconv"
	"strings"
	"testing"

	"postrider/api"
	"postrider/eid"
	"postrider/seven"
)

func none() api.Eid { return api.Eid{} }

func dtn(node string, service string) api.Eid {
	return api.Eid{Scheme: api.Dtn, Node: node, Service: service}
}

func ipn(a int, b int) api.Eid { return api.Eid{Scheme: api.Ipn, A: a, B: b} }

// payload is a bundle's last block.
func payload(data string) api.Block {
	return api.Block{Type: api.Payload, Num: 1, Data: data}
}

// block is one ahead of the last one.
func block(kind int, num int, flags int, sum int, data string) api.Block {
	return api.Block{Type: kind, Num: num, Flags: flags, Sum: sum, Data: data}
}

// least is the chapter's example without a byte of data.
func least() api.Seven { return api.Seven{Flags: api.Whole, Blocks: []api.Block{payload("")}} }

// example is that of the chapter's table.
func example() api.Seven {
	return api.Seven{Flags: api.Whole, Blocks: []api.Block{payload("hi")}}
}

// sent has a source, so that it may have any flag.
func sent() api.Seven {
	return api.Seven{Dest: ipn(2, 1), Source: ipn(1, 1), Life: 9, Blocks: []api.Block{block(7, 2, 0, 0, "\x09"), payload("hi")}}
}

// full has something in each of its fields.
func full() api.Seven {
	x := api.Seven{
		Flags: api.Fragment | api.Ack | api.Timed | api.Received, Sum: api.Sum16,
		Dest: dtn("a", "b"), Source: ipn(300, 0), Report: dtn("a", ""),
		Time: 1000, Seq: 5, Life: 60, Off: 2, Total: 7,
		Blocks: []api.Block{block(6, 255, api.Copied, api.Sum32, "xyz"), block(2, 2, api.Told|api.Skipped, api.Sum16, ""), block(255, 24, 0, 0, "yz"), payload("abc")},
	}
	x.Blocks[3].Flags, x.Blocks[3].Sum = api.Fatal, api.Sum16
	return x
}

// greatest has as much in it as may be.
func greatest() api.Seven {
	a, b := strings.Repeat("a", 19), strings.Repeat("/", 20)
	x := api.Seven{
		Flags: api.Fragment | api.Ack | api.Timed | plainReports, Sum: api.Sum32,
		Dest: dtn(a+"1", b), Source: dtn(a+"2", b), Report: ipn(999999999, 999999999),
		Time: 281474976710655, Seq: 281474976710655, Life: 281474976710655, Off: 281474976710655 - 600, Total: 281474976710655,
	}
	for i, kind := range []int{6, 7, 10, 192, 255, 255, 2} {
		x.Blocks = append(x.Blocks, block(kind, 249+i, 23, 1+i%2, strings.Repeat("\xff", 600)))
	}
	x.Blocks = append(x.Blocks, payload(strings.Repeat("\x00", 600)))
	x.Blocks[7].Flags, x.Blocks[7].Sum = 23, api.Sum32
	return x
}

// rightOnes are bundles that have bytes.
func rightOnes() []api.Seven {
	admin, part, many, summed := sent(), sent(), sent(), example()
	admin.Flags = api.Admin | api.Timed
	part.Flags, part.Off, part.Total = api.Fragment|api.Admin, 0, 2
	many.Blocks = nil
	for i := range 7 {
		many.Blocks = append(many.Blocks, block(3, 30-i, 0, 0, ""))
	}
	many.Blocks = append(many.Blocks, payload("\x9f\xff"))
	summed.Sum, summed.Blocks[0].Sum = api.Sum32, api.Sum16
	return []api.Seven{least(), example(), sent(), full(), greatest(), admin, part, many, summed}
}

const plainReports = api.Received | api.Forwarded | api.Delivered | api.Deleted

// plainSum tells whether n is a sum of some flags, the greatest first.
func plainSum(n int, flags ...int) bool {
	for _, f := range flags {
		if n >= f {
			n -= f
		}
	}
	return n == 0
}

func plainBlock(b api.Block, last bool) bool {
	switch {
	case b.Type < 1 || b.Type > 255 || b.Num > 255:
		return false
	case last && (b.Type != 1 || b.Num != 1), !last && (b.Type == 1 || b.Num < 2):
		return false
	case !plainSum(b.Flags, 16, 4, 2, 1) || b.Sum != 0 && b.Sum != 1 && b.Sum != 2:
		return false
	}
	return len(b.Refs) == 0 && len(b.Data) <= 600
}

// plainPairs tells whether no two blocks have what only one may have.
func plainPairs(list []api.Block) bool {
	for i, a := range list {
		for _, b := range list[:i] {
			once := a.Type == 6 || a.Type == 7 || a.Type == 10 || a.Type == 192
			if a.Num == b.Num || once && a.Type == b.Type {
				return false
			}
		}
	}
	return true
}

// plainRight is what the chapter says of a right bundle, sentence by sentence.
func plainRight(x api.Seven) bool {
	if !plainSum(x.Flags, 262144, 131072, 65536, 16384, 64, 32, 4, 2, 1) || len(x.Blocks) == 0 || len(x.Blocks) > 8 {
		return false
	}
	for i, b := range x.Blocks {
		if !plainBlock(b, i == len(x.Blocks)-1) {
			return false
		}
	}
	fragment, admin, whole, ack, told := x.Flags%2 == 1, x.Flags/2%2 == 1, x.Flags/4%2 == 1, x.Flags/32%2 == 1, x.Flags >= 16384
	switch {
	case !plainPairs(x.Blocks), fragment && whole, admin && (ack || told):
		return false
	case x.Sum != 0 && x.Sum != 1 && x.Sum != 2:
		return false
	case !eid.Right(x.Dest), !eid.Right(x.Source), !eid.Right(x.Report):
		return false
	case x.Source.Scheme == api.NoEid && (!whole || told):
		return false
	case x.Time < 0, x.Life < 0, x.Seq < 0, x.Time > 281474976710655, x.Life > 281474976710655, x.Seq > 281474976710655:
		return false
	case !fragment:
		return x.Off == 0 && x.Total == 0
	}
	return x.Off >= 0 && x.Total >= 0 && x.Total <= 281474976710655 && x.Off <= x.Total-len(x.Blocks[len(x.Blocks)-1].Data)
}

// plainHead is what stands ahead of an item, as chapter 3 says it.
func plainHead(major int, n int) string {
	b := []byte{byte(major << 5)}
	switch {
	case n < 24:
		b[0] += byte(n)
	case n < 1<<8:
		b[0] += 24
		b = append(b, byte(n))
	case n < 1<<16:
		b[0] += 25
		b = binary.BigEndian.AppendUint16(b, uint16(n))
	case n < 1<<32:
		b[0] += 26
		b = binary.BigEndian.AppendUint32(b, uint32(n))
	default:
		b[0] += 27
		b = binary.BigEndian.AppendUint64(b, uint64(n))
	}
	return string(b)
}

func plainNumbers(list ...int) string {
	s := ""
	for _, n := range list {
		s += plainHead(0, n)
	}
	return s
}

func plainName(e api.Eid) string {
	switch e.Scheme {
	case api.Dtn:
		rest := "//" + e.Node + "/" + e.Service
		return "\x82\x01" + plainHead(3, len(rest)) + rest
	case api.Ipn:
		return "\x82\x02\x82" + plainNumbers(e.A, e.B)
	}
	return "\x82\x01\x00"
}

// plainCheck are a sum's bytes, bit by bit for kind 1.
func plainCheck(kind int, s string) string {
	if kind == 2 {
		return string(binary.BigEndian.AppendUint32(nil, crc32.Checksum([]byte(s), crc32.MakeTable(crc32.Castagnoli))))
	}
	r := 0xffff
	for i := range len(s) {
		r ^= int(s[i])
		for range 8 {
			r = r>>1 ^ 0x8408*(r&1)
		}
	}
	r ^= 0xffff
	return string([]byte{byte(r >> 8), byte(r)})
}

// plainList is a list of so many parts, and of their sum.
func plainList(kind int, count int, parts string) string {
	switch kind {
	case 1:
		s := plainHead(4, count+1) + parts + "\x42"
		return s + plainCheck(1, s+"\x00\x00")
	case 2:
		s := plainHead(4, count+1) + parts + "\x44"
		return s + plainCheck(2, s+"\x00\x00\x00\x00")
	}
	return plainHead(4, count) + parts
}

// plainFirst is a bundle's first item, of the bytes of its parts.
func plainFirst(x api.Seven) string {
	parts := plainNumbers(7, x.Flags, x.Sum) + plainName(x.Dest) + plainName(x.Source) + plainName(x.Report) + "\x82" + plainNumbers(x.Time, x.Seq, x.Life)
	if x.Flags%2 == 0 {
		return plainList(x.Sum, 8, parts)
	}
	return plainList(x.Sum, 10, parts+plainNumbers(x.Off, x.Total))
}

func plainItem(b api.Block) string {
	return plainList(b.Sum, 5, plainNumbers(b.Type, b.Num, b.Flags, b.Sum)+plainHead(2, len(b.Data))+b.Data)
}

// plainBytes are those of a right bundle, as the chapter says them.
func plainBytes(x api.Seven) string {
	s := "\x9f" + plainFirst(x)
	for _, b := range x.Blocks {
		s += plainItem(b)
	}
	return s + "\xff"
}

// cursor reads a text front to back, till something is wrong.
type cursor struct {
	left  string
	wrong bool
}

func (c *cursor) take(n int) string {
	if c.wrong || n < 0 || n > len(c.left) {
		c.wrong = true
		return ""
	}
	s := c.left[:n]
	c.left = c.left[n:]
	return s
}

// head reads one of any width, and answers its major too.
func (c *cursor) head() (int, int) {
	s := c.take(1)
	if s == "" {
		return 0, 0
	}
	n, width := int(s[0]%32), 0
	if 24 <= n && n < 28 {
		width, n = 1<<(n-24), 0
	}
	for _, b := range []byte(c.take(width)) {
		n = n<<8 + int(b)
	}
	return int(s[0] / 32), n
}

// number is the argument of a head of any major.
func (c *cursor) number() int {
	_, n := c.head()
	return n
}

func (c *cursor) data() string { return c.take(c.number()) }

func (c *cursor) name() api.Eid {
	c.take(2)
	switch major, n := c.head(); major {
	case 3:
		node, service, _ := strings.Cut(strings.TrimPrefix(c.take(n), "//"), "/")
		return dtn(node, service)
	case 4:
		return ipn(c.number(), c.number())
	}
	return none()
}

// plainParse reads a bundle, and tells whether it is a right one that has just these bytes.
func plainParse(s string) (api.Seven, bool) {
	c := cursor{left: s}
	var x api.Seven
	c.take(3)
	x.Flags, x.Sum = c.number(), c.number()
	x.Dest, x.Source, x.Report = c.name(), c.name(), c.name()
	c.take(1)
	x.Time, x.Seq, x.Life = c.number(), c.number(), c.number()
	if x.Flags%2 == 1 {
		x.Off, x.Total = c.number(), c.number()
	}
	if x.Sum != 0 {
		c.data()
	}
	for len(c.left) > 1 && !c.wrong && len(x.Blocks) < 9 {
		c.take(1)
		b := api.Block{Type: c.number(), Num: c.number(), Flags: c.number(), Sum: c.number(), Data: c.data()}
		if b.Sum != 0 {
			c.data()
		}
		x.Blocks = append(x.Blocks, b)
	}
	if c.wrong || !plainRight(x) || plainBytes(x) != s {
		return api.Seven{}, false
	}
	return x, true
}

// plainSame is what the chapter says of Same: nil and empty lists are one.
func plainSame(a api.Seven, b api.Seven) bool { return reflect.DeepEqual(copied(a), copied(b)) }

// copied is the same bundle in lists of its own.
func copied(x api.Seven) api.Seven {
	x.Blocks = append([]api.Block{}, x.Blocks...)
	for i := range x.Blocks {
		x.Blocks[i].Refs = append([]api.Eid{}, x.Blocks[i].Refs...)
	}
	return x
}

// told keeps what is told of great bundles and long texts readable.
func told(x any) string {
	s := fmt.Sprintf("%+v", x)
	return strconv.Quote(s[:min(len(s), 300)])
}

// wantBundle holds all that is answered of a bundle, right or not, against what the chapter says.
func wantBundle(t *testing.T, x api.Seven) {
	t.Helper()
	right := plainRight(x)
	if got := seven.Right(x); got != right {
		t.Errorf("Right(%v) = %v", told(x), got)
	}
	if !seven.Same(x, copied(x)) {
		t.Errorf("%v is not the same as itself", told(x))
	}
	load := ""
	if len(x.Blocks) > 0 {
		load = x.Blocks[len(x.Blocks)-1].Data
	}
	if got := seven.Load(x); got != load {
		t.Errorf("Load(%v) = %v", told(x), told(got))
	}
	s, e := seven.Encode(x)
	if !right {
		if s != "" || e != api.ErrSeven {
			t.Errorf("Encode(%v) = %v, %d", told(x), told(s), e)
		}
		return
	}
	if want := plainBytes(x); s != want || e != api.OK {
		t.Errorf("Encode(%v) = %v, %d; want %v", told(x), told(s), e, told(want))
	}
	wantParse(t, plainBytes(x), x)
}

func wantRight(t *testing.T, x api.Seven) {
	t.Helper()
	if !plainRight(x) {
		t.Errorf("%v is not right", told(x))
	}
	wantBundle(t, x)
}

func wantWrong(t *testing.T, x api.Seven) {
	t.Helper()
	if plainRight(x) {
		t.Errorf("%v is right", told(x))
	}
	wantBundle(t, x)
}

func wantParse(t *testing.T, s string, want api.Seven) {
	t.Helper()
	if x, e := seven.Parse(s); !plainSame(x, want) || e != api.OK {
		t.Errorf("Parse(%v) = %v, %d; want %v", told(s), told(x), e, told(want))
	}
}

func wantNoParse(t *testing.T, s string) {
	t.Helper()
	if x, e := seven.Parse(s); !plainSame(x, api.Seven{}) || e != api.ErrSeven {
		t.Errorf("Parse(%v) = %v, %d", told(s), told(x), e)
	}
}

// wantPlain wants of any bytes what the chapter says of them.
func wantPlain(t *testing.T, s string) {
	t.Helper()
	if x, right := plainParse(s); right {
		wantParse(t, s, x)
	} else {
		wantNoParse(t, s)
	}
}

// P11.1: what the chapter's table says.
func TestExample(t *testing.T) {
	wantRight(t, example())
	wantParse(t, "\x9f\x88\x07\x04\x00\x82\x01\x00\x82\x01\x00\x82\x01\x00\x82\x00\x00\x00\x85\x01\x01\x00\x00\x42hi\xff", example())
}

// P11.1, written out: a part of a bundle, names of each kind, sums of each kind.
func TestBytes(t *testing.T) {
	wantParse(t, "\x9f\x88\x07\x04\x00\x82\x01\x00\x82\x01\x00\x82\x01\x00\x82\x00\x00\x00\x85\x01\x01\x00\x00\x40\xff", least())
	wantParse(t, "\x9f\x88\x07\x00\x00\x82\x02\x82\x02\x01\x82\x02\x82\x01\x01\x82\x01\x00\x82\x00\x00\x09\x85\x07\x02\x00\x00\x41\x09\x85\x01\x01\x00\x00\x42hi\xff", sent())
	first := "\x8b\x07\x19\x40\x61\x01\x82\x01\x65//a/b\x82\x02\x82\x19\x01\x2c\x00\x82\x01\x64//a/\x82\x19\x03\xe8\x05\x18\x3c\x02\x07\x42"
	six := "\x86\x06\x18\xff\x01\x02\x43xyz\x44"
	two := "\x86\x02\x02\x12\x01\x40\x42"
	last := "\x86\x01\x01\x04\x01\x43abc\x42"
	wantParse(t, "\x9f"+first+plainCheck(1, first+"\x00\x00")+six+plainCheck(2, six+"\x00\x00\x00\x00")+two+plainCheck(1, two+"\x00\x00")+"\x85\x18\xff\x18\x18\x00\x00\x42yz"+last+plainCheck(1, last+"\x00\x00")+"\xff", full())
}

// The reference's own sums are those of chapter 5's table.
func TestPlainCheck(t *testing.T) {
	if a, b := plainCheck(1, "123456789"), plainCheck(2, "123456789"); a != "\x90\x6e" || b != "\xe3\x06\x92\x83" {
		t.Errorf("%x %x", a, b)
	}
}

// P11.1, P11.2
func TestRightOnes(t *testing.T) {
	for _, x := range rightOnes() {
		wantRight(t, x)
	}
}

// P11.1: all flags that a bundle may have, and others.
func TestFlags(t *testing.T) {
	part := full()
	part.Blocks = part.Blocks[3:]
	for _, x := range []api.Seven{example(), sent(), part} {
		for low := range 512 {
			for high := range 33 {
				x.Flags = low + 16384*high
				wantBundle(t, x)
				// Without the flag Fragment none of its numbers may be there.
				y := x
				y.Off, y.Total = 0, 9*(x.Flags%2)
				wantBundle(t, y)
			}
		}
		for bit := range 64 {
			for _, f := range []int{0, api.Whole, api.Fragment, api.Whole | api.Timed, api.Admin | api.Whole} {
				x.Flags = f | 1<<bit
				wantBundle(t, x)
				x.Flags = -x.Flags
				wantBundle(t, x)
				x.Flags = f - 1<<bit
				wantBundle(t, x)
			}
		}
	}
}

// P11.1: flags that don't go with each other, one by one.
func TestFlagsTogether(t *testing.T) {
	for _, f := range []int{api.Ack, api.Received, api.Forwarded, api.Delivered, api.Deleted} {
		x := sent()
		x.Flags = f
		wantRight(t, x)
		x.Flags = f | api.Admin
		wantWrong(t, x)
		x.Flags, x.Source = f|api.Whole, none()
		if f == api.Ack {
			wantRight(t, x)
		} else {
			wantWrong(t, x)
		}
	}
	for _, f := range []int{api.Admin, api.Timed, 0} {
		x := sent()
		x.Flags, x.Source = f, none()
		wantWrong(t, x)
		x.Flags = f | api.Whole
		wantRight(t, x)
		x.Flags, x.Source = f|api.Whole|api.Fragment, ipn(1, 1)
		x.Total = 2
		wantWrong(t, x)
		x.Flags = f | api.Fragment
		wantRight(t, x)
	}
	// What only version 6 has.
	for _, f := range []int{api.Custody, api.Single, api.Priority, 2 * api.Priority, api.Accepted} {
		x := sent()
		x.Flags = f
		wantWrong(t, x)
		x.Flags, x.Blocks[0].Flags = 0, f
		if f != api.Single {
			wantWrong(t, x)
		}
	}
}

// edges are where a number may begin or stop to be right.
func edges() []int {
	l := []int{math.MinInt, math.MinInt + 1, math.MaxInt, math.MaxInt - 1, math.MaxInt - 600, -1 << 48, -1 << 32}
	for _, n := range []int{0, 6, 10, 16, 24, 32, 64, 128, 192, 256, 300, 600, 16384, 65536, 1 << 31, 1 << 32, 281474976710, 281474976710655, 281474976710655 - 600} {
		l = append(l, n-2, n-1, n, n+1, n+2)
	}
	return l
}

// fields are a bundle's numbers.
func fields(x *api.Seven) []*int {
	l := []*int{&x.Flags, &x.Sum, &x.Time, &x.Seq, &x.Life, &x.Off, &x.Total}
	for i := range x.Blocks {
		b := &x.Blocks[i]
		l = append(l, &b.Type, &b.Num, &b.Flags, &b.Sum)
	}
	return l
}

// nameFields are a bundle's names.
func nameFields(x *api.Seven) []*api.Eid { return []*api.Eid{&x.Dest, &x.Source, &x.Report} }

func wantSame(t *testing.T, a api.Seven, b api.Seven) {
	t.Helper()
	want := plainSame(a, b)
	if seven.Same(a, b) != want || seven.Same(b, a) != want {
		t.Errorf("Same(%v, %v) is not %v", told(a), told(b), want)
	}
}

// P11.1: each number at its edges.
func TestNumbers(t *testing.T) {
	for _, x := range rightOnes() {
		for i := range fields(&x) {
			for _, n := range edges() {
				y := copied(x)
				*fields(&y)[i] = n
				wantBundle(t, y)
				wantSame(t, x, y)
			}
		}
	}
}

// P11.1: a part is within the whole, whatever is great.
func TestParts(t *testing.T) {
	for _, data := range []string{"", "a", "hi", strings.Repeat("a", 600)} {
		for _, off := range edges() {
			for _, total := range edges() {
				x := sent()
				x.Flags, x.Off, x.Total = api.Fragment, off, total
				// Other blocks' data does not count.
				x.Blocks = []api.Block{block(2, 2, 0, 0, "abcdef"), payload(data)}
				wantBundle(t, x)
			}
			x := sent()
			x.Off, x.Total = off, off
			wantBundle(t, x)
		}
	}
}

// wrongNames are of no endpoint.
func wrongNames() []api.Eid {
	return []api.Eid{
		{Scheme: -1}, {Scheme: 3}, {Scheme: math.MaxInt}, {A: 1}, {B: 7}, {Node: "a"}, {Service: "a"},
		dtn("", ""), dtn("A", ""), dtn("a\x00", "b"), dtn("a", "\xff"), dtn(strings.Repeat("a", 21), ""), dtn("a", strings.Repeat("a", 21)),
		{Scheme: api.Dtn, Node: "a", A: 1}, ipn(0, 0), ipn(-1, 0), ipn(4, -1), ipn(1000000000, 0), ipn(4, 1000000000), {Scheme: api.Ipn, A: 4, Node: "a"},
	}
}

// P11.1: each name.
func TestNames(t *testing.T) {
	for _, x := range rightOnes() {
		for i := range nameFields(&x) {
			for _, e := range append(wrongNames(), none(), dtn("a", "b"), dtn("z", ""), dtn("none", "ipn"), ipn(1, 0), ipn(999999999, 999999999)) {
				y := copied(x)
				*nameFields(&y)[i] = e
				wantBundle(t, y)
				if !eid.Right(e) {
					wantWrong(t, y)
				}
				wantSame(t, x, y)
			}
		}
	}
}

// others are blocks that may stand ahead of the last one.
func others(count int) []api.Block {
	var l []api.Block
	for i := range count {
		l = append(l, block(2, 2+i, 0, 0, "x"))
	}
	return l
}

// P11.1: how many blocks there are, and which is the last one.
func TestHowManyBlocks(t *testing.T) {
	for n := range 12 {
		x := example()
		x.Blocks = append(others(n), payload("hi"))
		if n <= 7 {
			wantRight(t, x)
		} else {
			wantWrong(t, x)
			wantNoParse(t, plainBytes(x))
		}
		x.Blocks = x.Blocks[:n]
		wantWrong(t, x)
		wantNoParse(t, plainBytes(x))
		for i := range x.Blocks {
			x.Blocks[i] = payload("hi")
		}
		wantBundle(t, x)
		if n > 1 {
			wantWrong(t, x)
			x.Blocks[0].Num = 2
			wantWrong(t, x)
		}
	}
	x := example()
	x.Blocks = nil
	wantWrong(t, x)
}

// P11.1: all types, numbers, flags and kinds of sums of a block, at each place.
func TestBlocks(t *testing.T) {
	for n := -2; n < 520; n++ {
		for place := range 3 {
			x := sent()
			x.Blocks = []api.Block{block(2, 2, 0, 0, "a"), block(10, 3, 0, 0, "b"), payload("c")}
			for _, field := range []*int{&x.Blocks[place].Type, &x.Blocks[place].Num, &x.Blocks[place].Flags, &x.Blocks[place].Sum, &x.Sum} {
				own := *field
				*field = n
				wantBundle(t, x)
				if n >= 0 && !plainRight(x) {
					wantNoParse(t, plainBytes(x))
				}
				*field = own
			}
		}
	}
}

// P11.1: no two blocks have the same number, wherever they stand.
func TestNumsTogether(t *testing.T) {
	for i := range 7 {
		for j := range 7 {
			x := example()
			x.Blocks = append(others(7), payload("hi"))
			x.Blocks[i].Num = x.Blocks[j].Num
			x.Blocks[i].Type = 9
			wantBundle(t, x)
			if i != j {
				wantWrong(t, x)
				wantNoParse(t, plainBytes(x))
			}
		}
	}
	for num := range 300 {
		x := example()
		x.Blocks = []api.Block{block(2, num, 0, 0, ""), block(3, 255, 0, 0, ""), payload("")}
		wantBundle(t, x)
		x.Blocks = []api.Block{block(2, 2, 0, 0, ""), block(3, num, 0, 0, ""), payload("")}
		wantBundle(t, x)
	}
}

// P11.1: of some types there is one block at most, of others there are any.
func TestTypesTogether(t *testing.T) {
	for kind := range 256 {
		for i := range 4 {
			for j := range i {
				x := example()
				x.Blocks = append(others(4), payload("hi"))
				x.Blocks[i].Type, x.Blocks[j].Type = kind, kind
				once := slices.Contains([]int{0, 1, 6, 7, 10, 192}, kind)
				if wantBundle(t, x); plainRight(x) == once {
					t.Errorf("two blocks of the type %d", kind)
				}
				if once {
					wantNoParse(t, plainBytes(x))
				}
				x.Blocks[j].Type = 2 + (kind+1)%254
				wantBundle(t, x)
			}
		}
	}
	x := example()
	x.Blocks = []api.Block{block(6, 2, 0, 0, ""), block(7, 3, 0, 0, ""), block(10, 4, 0, 0, ""), block(192, 5, 0, 0, ""), payload("")}
	wantRight(t, x)
	for i := range 4 {
		for j := range 4 {
			y := copied(x)
			y.Blocks[i].Type = y.Blocks[j].Type
			if i != j {
				wantWrong(t, y)
			}
		}
	}
}

// P11.1: how many bytes and names a block has.
func TestHowMuchInBlocks(t *testing.T) {
	for _, n := range []int{0, 1, 23, 24, 255, 256, 599, 600, 601, 602, 1000, 1 << 20} {
		for kind := range 3 {
			x := example()
			x.Blocks = []api.Block{block(2, 2, 0, kind, strings.Repeat("a", n)), payload("")}
			wantBundle(t, x)
			x.Blocks = []api.Block{block(2, 2, 0, 0, ""), payload(strings.Repeat("\x00", n))}
			x.Blocks[1].Sum = kind
			wantBundle(t, x)
			if n > 600 {
				wantWrong(t, x)
				wantNoParse(t, plainBytes(x))
			}
		}
	}
	for n := 1; n < 10; n++ {
		for place := range 2 {
			for _, e := range append(wrongNames(), none(), ipn(1, 1)) {
				x := sent()
				x.Blocks[place].Refs = slices.Repeat([]api.Eid{e}, n)
				wantWrong(t, x)
				wantSame(t, x, sent())
			}
		}
	}
}

// P11.1: the same, field by field, also of wrong bundles.
func TestSame(t *testing.T) {
	all := append(rightOnes(), api.Seven{}, api.Seven{Flags: -1, Seq: math.MinInt}, api.Seven{Blocks: []api.Block{{}}}, api.Seven{Blocks: []api.Block{{}, {}}})
	for _, e := range wrongNames() {
		all = append(all, api.Seven{Dest: e}, api.Seven{Source: e}, api.Seven{Report: e}, api.Seven{Blocks: []api.Block{{Refs: []api.Eid{e}}}}, api.Seven{Blocks: []api.Block{{Refs: []api.Eid{e, e}}}})
	}
	for _, x := range all[:13] {
		for i := range x.Blocks {
			less, more, other, named := copied(x), copied(x), copied(x), copied(x)
			less.Blocks = slices.Delete(less.Blocks, i, i+1)
			more.Blocks = slices.Insert(more.Blocks, i, more.Blocks[i])
			other.Blocks[i].Data += "\x00"
			named.Blocks[i].Refs = append(named.Blocks[i].Refs, none())
			all = append(all, less, more, other, named)
		}
	}
	for i, a := range all {
		for j, b := range all {
			if got := seven.Same(a, b); got != plainSame(a, b) || i == j && !got {
				t.Errorf("Same(%v, %v) = %v", told(a), told(b), got)
			}
		}
	}
}

// R3: nil and empty lists are one.
func TestEmptyLists(t *testing.T) {
	a, b := example(), example()
	b.Blocks[0].Refs = []api.Eid{}
	if !seven.Same(a, b) || !seven.Same(b, a) || !seven.Same(api.Seven{}, api.Seven{Blocks: []api.Block{}}) {
		t.Error("nil and empty lists are told from each other")
	}
	wantRight(t, b)
	wantWrong(t, api.Seven{Blocks: []api.Block{}})
}

// P11.1: the data of the last block, of any bundle.
func TestLoad(t *testing.T) {
	for want, x := range map[string]api.Seven{
		"":     {},
		"hi":   example(),
		"abc":  full(),
		"b":    {Flags: -1, Blocks: []api.Block{{Type: 1, Data: "a"}, {Type: 300, Data: "b"}}},
		"\x00": {Blocks: []api.Block{payload("a"), {Data: "\x00"}}},
	} {
		if got := seven.Load(x); got != want {
			t.Errorf("Load(%v) = %v", told(x), told(got))
		}
	}
	if got := seven.Load(api.Seven{Blocks: []api.Block{payload("a"), {}}}); got != "" {
		t.Errorf("Load of an empty last block = %v", told(got))
	}
}

func wantFind(t *testing.T, x api.Seven, kind int, want string, found bool) {
	t.Helper()
	if got, ok := seven.Find(x, kind); got != want || ok != found {
		t.Errorf("Find(%v, %d) = %v, %v", told(x), kind, told(got), ok)
	}
}

// P11.1: the data of the first block of a type, of any bundle.
func TestFind(t *testing.T) {
	wantFind(t, full(), 6, "xyz", true)
	wantFind(t, full(), 2, "", true)
	wantFind(t, full(), 255, "yz", true)
	wantFind(t, full(), 1, "abc", true)
	for kind := -300; kind < 600; kind++ {
		wantFind(t, api.Seven{}, kind, "", false)
		wantFind(t, api.Seven{Blocks: []api.Block{}}, kind, "", false)
		if !slices.Contains([]int{1, 2, 6, 255}, kind) {
			wantFind(t, full(), kind, "", false)
		}
	}
	wrong := api.Seven{Flags: -1, Blocks: []api.Block{{Type: 9, Data: "a"}, {Type: 9, Data: "b"}, {Type: -7}, {Type: -7, Data: "c"}, {Type: math.MaxInt, Data: "d"}, {Num: 2, Data: "e"}, {Type: 9, Data: "f"}}}
	for kind, want := range map[int]string{9: "a", -7: "", math.MaxInt: "d", 0: "e"} {
		wantFind(t, wrong, kind, want, true)
	}
	for _, kind := range []int{1, 2, math.MinInt, 7} {
		wantFind(t, wrong, kind, "", false)
	}
	many := api.Seven{Blocks: append(make([]api.Block, 1<<20), payload("hi"))}
	wantFind(t, many, 1, "hi", true)
	wantFind(t, many, 0, "", true)
}

// otherBytes are those that a text is tried with: all, or, in a long one, a few that tell much.
func otherBytes(s string) []string {
	var l []string
	for b := range 256 {
		if len(s) < 1000 || b&(b+1) == 0 || b&(b-1) == 0 {
			l = append(l, string([]byte{byte(b)}))
		}
	}
	return l
}

// P11.1, P11.2: whatever byte is put into a bundle's bytes, taken out, or another one.
func TestParseChanged(t *testing.T) {
	for _, x := range rightOnes() {
		s := plainBytes(x)
		for i := range len(s) {
			wantNoParse(t, s[:i])
			if i > 0 {
				wantPlain(t, s[i:])
			}
			if len(s) > 1000 && i > 60 && i%193 != 0 {
				continue
			}
			wantPlain(t, s[:i]+s[i+1:])
			for _, c := range otherBytes(s) {
				wantPlain(t, s[:i]+c+s[i+1:])
				wantPlain(t, s[:i]+c+s[i:])
			}
		}
		for b := range 256 {
			wantNoParse(t, s+string([]byte{byte(b)}))
		}
		wantNoParse(t, s+s)
	}
}

// P11.1, P11.2: pieces left out, told twice, or exchanged.
func TestParsePieces(t *testing.T) {
	for _, x := range []api.Seven{least(), sent(), full()} {
		s := plainBytes(x)
		for i := range len(s) + 1 {
			for j := i; j <= len(s); j++ {
				wantPlain(t, s[:i]+s[j:])
				wantPlain(t, s[:j]+s[i:])
				if j < len(s) && i < j {
					wantPlain(t, s[:i]+s[j:j+1]+s[i+1:j]+s[i:i+1]+s[j+1:])
				}
			}
		}
	}
}

// exampleParts are the pieces that the example's bytes are laid of, each an item or a head.
func exampleParts() []string {
	return []string{"\x9f", "\x88", "\x07", "\x04", "\x00", "\x82\x01\x00", "\x82\x01\x00", "\x82\x01\x00", "\x82", "\x00", "\x00", "\x00", "\x85", "\x01", "\x01", "\x00", "\x00", "\x42hi", "\xff"}
}

// P11.1: any other piece in the place of one, or beside it.
func TestParseParts(t *testing.T) {
	pieces := []string{
		"", "\x00", "\x01", "\x02", "\x07", "\x06", "\x08", "\x17", "\x18\x17", "\x18\x04", "\x18\x00", "\x18\x18", "\x19\x00\x04", "\x1a\x00\x00\x00\x07", "\x1b\x00\x00\x00\x00\x00\x00\x00\x01",
		"\x1b\x00\x00\xff\xff\xff\xff\xff\xff", "\x1b\x00\x01\x00\x00\x00\x00\x00\x00", "\x1b\xff\xff\xff\xff\xff\xff\xff\xff", "\x1c", "\x1f", "\x20", "\x26", "\x37",
		"\x40", "\x41\x07", "\x41\x00", "\x42hi", "\x58\x02hi", "\x5f\x42hi\xff", "\x62hi", "\x60", "\x7f", "\x80", "\x81", "\x82", "\x83", "\x84", "\x85", "\x86", "\x87", "\x88", "\x89", "\x8a", "\x8b", "\x98\x05", "\x98\x08", "\x9f", "\x9f\xff",
		"\x82\x00\x00", "\x82\x01\x00", "\x82\x01\x64none", "\x82\x01\x65//a/b", "\x82\x01\x65\x00\x00\x00\x00\x00", "\x82\x01\x65//A/b", "\x82\x02\x82\x01\x01", "\x82\x02\x82\x00\x01", "\x82\x02\x00", "\x82\x01\x82\x01\x01", "\x82\x02\x83\x01\x01\x00", "\x83\x01\x00\x00", "\x81\x00",
		"\xa0", "\xa1\x00\x00", "\xc0\x00", "\xd8\x20\x00", "\xe0", "\xf4", "\xf6", "\xf7", "\xf9\x00\x00", "\xfb", "\xff",
	}
	for place, own := range exampleParts() {
		for _, p := range pieces {
			for _, there := range []string{p, p + own, own + p} {
				l := exampleParts()
				l[place] = there
				wantPlain(t, strings.Join(l, ""))
				// A list of one more or less, as it then would have to be.
				for _, first := range []string{"\x87", "\x89"} {
					l[1] = first
					wantPlain(t, strings.Join(l, ""))
				}
				l[1] = "\x88"
				for _, last := range []string{"\x84", "\x86"} {
					l[12] = last
					wantPlain(t, strings.Join(l, ""))
				}
			}
		}
	}
}

// P11.1: what stands around the items, and between them.
func TestParseAround(t *testing.T) {
	first, last, other := plainFirst(example()), plainItem(payload("hi")), plainItem(block(2, 2, 0, 0, ""))
	wantParse(t, "\x9f"+first+last+"\xff", example())
	for b := range 256 {
		c := string([]byte{byte(b)})
		if b != 0x9f {
			wantNoParse(t, c+first+last+"\xff")
		}
		if b != 0xff {
			wantNoParse(t, "\x9f"+first+last+c)
		}
		wantNoParse(t, c)
		wantNoParse(t, "\x9f"+c)
		wantNoParse(t, "\x9f"+c+"\xff")
		wantNoParse(t, "\x9f"+c+first+last+"\xff")
		wantNoParse(t, "\x9f"+first+c+last+"\xff")
		wantNoParse(t, "\x9f"+first+last+c+"\xff")
	}
	for _, s := range []string{"", "\x9f", "\xff", "\x9f\xff", "\x9f" + first + "\xff", "\x9f" + last + "\xff", "\x9f" + last + first + "\xff", "\x9f" + first + first + last + "\xff", "\x82" + first + last, "\x98\x02" + first + last, first + last, "\x9f" + first + last, first + last + "\xff", "\x9f\x9f" + first + last + "\xff\xff", "\x9f" + first + "\x9f" + last + "\xff\xff", "\x9f" + first + last + "\xff\xff"} {
		wantNoParse(t, s)
	}
	wantPlain(t, "\x9f"+first+other+last+"\xff")
	wantNoParse(t, "\x9f"+first+last+other+"\xff")
	wantNoParse(t, "\x9f"+first+last+last+"\xff")
	wantNoParse(t, "\x9f"+first+other+"\xff")
	wantNoParse(t, "\x9f"+other+first+last+"\xff")
	wantNoParse(t, "\x9f"+first+other+other+last+"\xff")
	for n := range 14 {
		wantPlain(t, "\x9f"+first+strings.Repeat(other, n)+last+"\xff")
		wantNoParse(t, "\x9f"+first+strings.Repeat(last, n)+other+"\xff")
	}
}

// P11.1: sums where none is told, none where one is told, and those of another kind.
func TestParseSums(t *testing.T) {
	for kind := range 3 {
		for told := range 4 {
			for count := 7; count < 11; count++ {
				parts := plainNumbers(7, 4, told) + "\x82\x01\x00\x82\x01\x00\x82\x01\x00\x82\x00\x00\x00"
				s := "\x9f" + plainList(kind, count, parts) + plainItem(payload("hi")) + "\xff"
				if count == 8 && told == kind {
					x := example()
					x.Sum = kind
					wantParse(t, s, x)
				} else {
					wantNoParse(t, s)
				}
			}
			for count := 4; count < 8; count++ {
				parts := plainNumbers(1, 1, 0, told) + "\x42hi"
				s := "\x9f" + plainFirst(example()) + plainList(kind, count, parts) + "\xff"
				if count == 5 && told == kind {
					x := example()
					x.Blocks[0].Sum = kind
					wantParse(t, s, x)
				} else {
					wantNoParse(t, s)
				}
			}
		}
	}
	// The sum of the bytes without those in its place, or with others there.
	for _, blank := range []string{"", "\x00", "\x00\x00\x00", "\xff\xff", "\x01\x00", "\x00\x01"} {
		s := "\x86\x01\x01\x00\x01\x42hi\x42"
		wantNoParse(t, "\x9f"+plainFirst(example())+s+plainCheck(1, s+blank)+"\xff")
	}
	for sum := range 65536 {
		s := "\x86\x01\x01\x00\x01\x42hi\x42" + string([]byte{byte(sum >> 8), byte(sum)})
		wantPlain(t, "\x9f"+plainFirst(example())+s+"\xff")
	}
}

// P11.2: one other byte in the data, or in the sum, of a block that has one.
func TestSumsTell(t *testing.T) {
	for kind := 1; kind <= 2; kind++ {
		for _, n := range []int{0, 1, 2, 23, 24, 600} {
			for place := range 2 {
				x := sent()
				x.Blocks[place].Sum = kind
				x.Blocks[place].Data = strings.Repeat("\x00\x09\xff", 200)[:n]
				own := plainItem(x.Blocks[place])
				// The data and the sum stand last, and between them the head of the sum.
				begin := len(own) - n - 1 - 2*kind
				ahead, behind, _ := strings.Cut(plainBytes(x), own)
				for i := begin; i < len(own); i++ {
					if i == begin+n {
						continue
					}
					for turned := range 256 {
						// In long data a few bytes that tell much: one bit, or all, turned.
						if n > 24 && turned&(turned-1) != 0 && turned != 255 {
							continue
						}
						s := ahead + own[:i] + string([]byte{own[i] ^ byte(turned)}) + own[i+1:] + behind
						if turned == 0 {
							wantParse(t, s, x)
						} else {
							wantNoParse(t, s)
						}
					}
				}
			}
		}
	}
}

// randomBundle is one that is often right.
func randomBundle(r *rand.Rand) api.Seven {
	pool := []api.Eid{none(), ipn(4, 7), ipn(1, 0), ipn(300, 16384), dtn("a", "b"), dtn("a", ""), dtn("none", "ipn"), dtn("a", "/b")}
	name := func() api.Eid { return pool[r.Intn(len(pool))] }
	number := func() int { return r.Intn(281474976710655>>r.Intn(48) + 1) }
	x := api.Seven{Flags: r.Intn(5) | r.Intn(4)<<5, Sum: r.Intn(3), Dest: name(), Source: name(), Report: name(), Time: number(), Seq: number(), Life: number()}
	x.Flags |= r.Intn(2) * (r.Intn(32) * api.Received &^ api.Accepted)
	nums := r.Perm(254)
	for i := range r.Intn(8) {
		x.Blocks = append(x.Blocks, block(2+r.Intn(254), 2+nums[i], r.Intn(32)&^8, r.Intn(3), strings.Repeat("x", r.Intn(200))))
	}
	x.Blocks = append(x.Blocks, payload(strings.Repeat("y", r.Intn(601))))
	x.Blocks[len(x.Blocks)-1].Sum = r.Intn(3)
	if x.Flags&api.Fragment != 0 {
		x.Off = number()
		x.Total = x.Off + 600 - r.Intn(2)
	}
	return x
}

// P11.1, P11.2: there and back.
func TestRandom(t *testing.T) {
	r := rand.New(rand.NewSource(11))
	right := 0
	for range 10000 {
		x := randomBundle(r)
		wantBundle(t, x)
		if !plainRight(x) {
			continue
		}
		right++
		s := plainBytes(x)
		i := r.Intn(len(s))
		wantPlain(t, s[:i]+string([]byte{byte(r.Intn(256))})+s[i+1:])
	}
	if right < 2500 {
		t.Errorf("only %d bundles were right", right)
	}
}

// P11.2: what is parsed, of whatever bytes, has just these.
func TestParsedHasTheseBytes(t *testing.T) {
	r := rand.New(rand.NewSource(112))
	own := plainBytes(sent())
	for range 60000 {
		b := []byte(own)
		for range 1 + r.Intn(3) {
			b[r.Intn(len(b))] = byte(r.Intn(256) >> r.Intn(8))
		}
		x, e := seven.Parse(string(b))
		if e != api.OK {
			wantPlain(t, string(b))
			continue
		}
		if s, wrong := seven.Encode(x); s != string(b) || wrong != api.OK {
			t.Errorf("Parse(%v) = %v, which has %v, %d", told(string(b)), told(x), told(s), wrong)
		}
	}
}

// R1: much of anything is refused too.
func TestMuch(t *testing.T) {
	own := plainBytes(sent())
	for _, c := range []string{"\x00", "\x01", "\x40", "\x5f", "\x80", "\x81", "\x9f", "\xff", "a", "\x85\x02\x02\x00\x00\x40", "\x98\x3b", "\x82\x00"} {
		s := strings.Repeat(c, 1<<20)
		wantNoParse(t, s)
		for _, ahead := range []string{"\x9f", "\x9f\x88", "\x9f\x88\x07", own[:6], own[:14], own[:len(own)-9], own[:len(own)-1], "\x9f\x9b\x00\x00\xff\xff\xff\xff\xff\xff", "\x9f\x5b\x00\x00\xff\xff\xff\xff\xff\xff"} {
			wantNoParse(t, ahead+s)
		}
		wantNoParse(t, own+s)
		x := sent()
		x.Blocks[1].Data = s
		wantWrong(t, x)
		x.Blocks[1].Data, x.Dest = "", dtn(s, s)
		wantWrong(t, x)
	}
	x := sent()
	x.Blocks = append(make([]api.Block, 1<<20), x.Blocks...)
	wantWrong(t, x)
	x = sent()
	x.Blocks[0].Refs = make([]api.Eid, 1<<20)
	wantWrong(t, x)
}

// R3: what is handed in is not written into, nor its spare room, nor kept.
func TestHandedIn(t *testing.T) {
	x, y := full(), full()
	x.Blocks = append(make([]api.Block, 0, 20), x.Blocks...)
	for i := range x.Blocks {
		x.Blocks[i].Refs = make([]api.Eid, 0, 20)
	}
	s, _ := seven.Encode(x)
	seven.Right(x)
	seven.Load(x)
	seven.Find(x, 1)
	if !seven.Same(x, y) || !seven.Same(y, x) {
		t.Errorf("handed in was %v", told(x))
	}
	for i, b := range x.Blocks[:20] {
		if i >= len(y.Blocks) {
			if !reflect.DeepEqual(b, api.Block{}) {
				t.Errorf("in the spare room stands %v", told(b))
			}
			continue
		}
		for _, e := range b.Refs[:20] {
			if e != none() {
				t.Errorf("in the spare room stands %v", e)
			}
		}
	}
	clear(x.Blocks)
	if s != plainBytes(y) {
		t.Errorf("Encode = %v", told(s))
	}
}

// R3: what is answered is new memory each time.
func TestAnswered(t *testing.T) {
	for _, want := range []api.Seven{full(), greatest()} {
		s := plainBytes(want)
		x, _ := seven.Parse(s)
		y, _ := seven.Parse(s)
		clear(x.Blocks[:cap(x.Blocks)])
		if !plainSame(y, want) {
			t.Errorf("two answers share memory: %v", told(y))
		}
		wantParse(t, s, want)
	}
}

// R4: calls leave nothing behind that another one could tell.
func TestKeepsNothing(t *testing.T) {
	for _, x := range rightOnes() {
		s := plainBytes(x)
		wantNoParse(t, s[:len(s)-1])
		wantWrong(t, api.Seven{Flags: x.Flags})
		wantRight(t, x)
		wantRight(t, least())
		wantNoParse(t, s[:len(s)/2])
		wantRight(t, x)
	}
}
