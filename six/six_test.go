package six_test

import (
	"fmt"
	"math"
	"math/rand"
	"reflect"
	"slices"
	"strconv"
	"strings"
	"testing"

	"postrider/api"
	"postrider/dict"
	"postrider/eid"
	"postrider/six"
)

func none() api.Eid { return api.Eid{} }

func dtn(node string, service string) api.Eid {
	return api.Eid{Scheme: api.Dtn, Node: node, Service: service}
}

func ipn(a int, b int) api.Eid { return api.Eid{Scheme: api.Ipn, A: a, B: b} }

// payload is a bundle's last block.
func payload(data string) api.Block {
	return api.Block{Type: api.Payload, Flags: api.Last, Data: data}
}

// block is one ahead of the last one.
func block(kind int, flags int, data string, refs ...api.Eid) api.Block {
	if len(refs) > 0 {
		flags |= api.Named
	}
	return api.Block{Type: kind, Flags: flags, Refs: refs, Data: data}
}

// least is the bundle with the fewest bytes.
func least() api.Six { return api.Six{Flags: api.Whole, Blocks: []api.Block{payload("")}} }

// example is that of the chapter's table.
func example() api.Six {
	return api.Six{Flags: api.Single, Dest: ipn(2, 1), Source: ipn(1, 1), Life: 9, Blocks: []api.Block{payload("hi")}}
}

// full has something in each of its fields.
func full() api.Six {
	return api.Six{
		Flags: api.Fragment | api.Custody | api.Single | api.Ack | api.Priority | api.Received,
		Dest:  dtn("a", "b"), Source: ipn(300, 0), Report: dtn("a", ""), Custodian: ipn(14, 7),
		Time: 300, Seq: 5, Life: 60, Off: 2, Total: 7,
		Blocks: []api.Block{block(5, api.Copied, "x", ipn(300, 0), dtn("a", "b")), block(255, api.Passed, "", none()), block(2, 0, "yz"), payload("abc")},
	}
}

// greatest has as much in it as may be.
func greatest() api.Six {
	a, b := strings.Repeat("a", 19), strings.Repeat("/", 20)
	x := api.Six{
		Flags: api.Fragment | api.Custody | api.Single | api.Ack | 2*api.Priority | plainReports,
		Dest:  dtn(a+"1", b), Source: dtn(a+"2", b), Report: dtn(a+"3", b), Custodian: ipn(999999999, 999999999),
		Time: 281474976710, Seq: 281474976710655, Life: 281474976710, Off: 281474976710655 - 600, Total: 281474976710655,
	}
	for i := range 7 {
		refs := []api.Eid{dtn(a, strconv.Itoa(i)), ipn(999999999, i), dtn(strconv.Itoa(i), b)}
		x.Blocks = append(x.Blocks, block(249+i, 127-api.Last, strings.Repeat("\xff", 600), refs...))
	}
	x.Blocks = append(x.Blocks, payload(strings.Repeat("\x00", 600)))
	x.Blocks[7].Flags = 127 - api.Named
	return x
}

// rightOnes are bundles that have bytes.
func rightOnes() []api.Six {
	admin, part, plain, many := example(), least(), example(), example()
	admin.Flags = api.Admin | api.Single | api.Priority
	part.Flags, part.Source = api.Fragment, ipn(1, 0)
	plain.Flags, plain.Custodian = api.Custody, dtn("none", "ipn")
	many.Blocks = append(slices.Repeat([]api.Block{block(2, 0, "")}, 7), payload("\x06\x80"))
	return []api.Six{least(), example(), full(), greatest(), admin, part, plain, many}
}

const plainReports = api.Received | api.Accepted | api.Forwarded | api.Delivered | api.Deleted

// plainSum tells whether n is a sum of some flags, the greatest first.
func plainSum(n int, flags ...int) bool {
	for _, f := range flags {
		if n >= f {
			n -= f
		}
	}
	return n == 0
}

func plainFlags(n int) bool {
	for p := range 3 {
		if plainSum(n-p*128, 262144, 131072, 65536, 32768, 16384, 32, 16, 8, 4, 2, 1) {
			return true
		}
	}
	return false
}

func plainBlock(b api.Block, last bool) bool {
	for _, e := range b.Refs {
		if !eid.Right(e) {
			return false
		}
	}
	switch {
	case b.Type < 1 || b.Type > 255 || last != (b.Type == 1):
		return false
	case !plainSum(b.Flags, 64, 32, 16, 8, 4, 2, 1) || last != (b.Flags/8%2 == 1) || (len(b.Refs) != 0) != (b.Flags/64 == 1):
		return false
	case b.Num != 0 || b.Sum != 0 || len(b.Refs) > 3 || last && len(b.Refs) != 0:
		return false
	}
	return len(b.Data) <= 600
}

// plainRight is what the chapter says of a right bundle, sentence by sentence.
func plainRight(x api.Six) bool {
	if !plainFlags(x.Flags) || len(x.Blocks) == 0 || len(x.Blocks) > 8 {
		return false
	}
	for i, b := range x.Blocks {
		if !plainBlock(b, i == len(x.Blocks)-1) {
			return false
		}
	}
	fragment, admin, whole, custody, ack, told := x.Flags%2 == 1, x.Flags/2%2 == 1, x.Flags/4%2 == 1, x.Flags/8%2 == 1, x.Flags/32%2 == 1, x.Flags >= 16384
	switch {
	case fragment && whole, admin && (custody || ack || told):
		return false
	case !eid.Right(x.Dest), !eid.Right(x.Source), !eid.Right(x.Report), !eid.Right(x.Custodian):
		return false
	case !custody && x.Custodian.Scheme != api.NoEid, x.Source.Scheme == api.NoEid && (!whole || custody || told):
		return false
	case x.Time < 0, x.Life < 0, x.Seq < 0, x.Time > 281474976710, x.Life > 281474976710, x.Seq > 281474976710655:
		return false
	case !fragment:
		return x.Off == 0 && x.Total == 0
	}
	return x.Off >= 0 && x.Total >= 0 && x.Total <= 281474976710655 && x.Off <= x.Total-len(x.Blocks[len(x.Blocks)-1].Data)
}

// plainGroups are those of numbers, as chapter 2 says them.
func plainGroups(list ...int) string {
	s := ""
	for _, n := range list {
		own := string([]byte{byte(n % 128)})
		for n /= 128; n > 0; n /= 128 {
			own = string([]byte{byte(n%128 + 128)}) + own
		}
		s += own
	}
	return s
}

// plainBytes are those of a right bundle, as the chapter says them.
func plainBytes(x api.Six) string {
	all := []api.Eid{x.Dest, x.Source, x.Report, x.Custodian}
	for _, b := range x.Blocks {
		all = append(all, b.Refs...)
	}
	names, pairs, _ := dict.Build(all)
	follow := plainGroups(pairs[:8]...) + plainGroups(x.Time) + plainGroups(x.Seq) + plainGroups(x.Life) + plainGroups(len(names)) + names
	if x.Flags%2 == 1 {
		follow += plainGroups(x.Off) + plainGroups(x.Total)
	}
	s := "\x06" + plainGroups(x.Flags) + plainGroups(len(follow)) + follow
	next := 8
	for _, b := range x.Blocks {
		s += string([]byte{byte(b.Type)}) + plainGroups(b.Flags)
		if b.Flags/64%2 == 1 {
			s += plainGroups(len(b.Refs))
			for range b.Refs {
				s += plainGroups(pairs[next], pairs[next+1])
				next += 2
			}
		}
		s += plainGroups(len(b.Data)) + b.Data
	}
	return s
}

// cursor reads a text front to back, till something is wrong.
type cursor struct {
	left  string
	wrong bool
}

func (c *cursor) take(n int) string {
	if c.wrong || n < 0 || n > len(c.left) {
		c.wrong = true
		return ""
	}
	s := c.left[:n]
	c.left = c.left[n:]
	return s
}

func (c *cursor) number() int {
	n := 0
	for !c.wrong {
		s := c.take(1)
		if s == "" || n > math.MaxInt>>7 {
			break
		}
		n = n<<7 + int(s[0]&127)
		if s[0] < 128 {
			return n
		}
	}
	c.wrong = true
	return 0
}

func (c *cursor) pair() []int { return []int{c.number(), c.number()} }

// plainParse reads a bundle, and tells whether it is a right one that has just these bytes.
func plainParse(s string) (api.Six, bool) {
	c := cursor{left: s}
	var x api.Six
	var pairs []int
	c.take(1)
	x.Flags = c.number()
	c.number()
	for range 4 {
		pairs = append(pairs, c.pair()...)
	}
	x.Time, x.Seq, x.Life = c.number(), c.number(), c.number()
	names := c.take(c.number())
	if x.Flags%2 == 1 {
		x.Off, x.Total = c.number(), c.number()
	}
	for c.left != "" && !c.wrong && len(x.Blocks) < 9 {
		b := api.Block{Type: int(c.take(1)[0]), Flags: c.number()}
		if b.Flags/64%2 == 1 {
			b.Refs = make([]api.Eid, min(c.number(), 4))
		}
		for range b.Refs {
			pairs = append(pairs, c.pair()...)
		}
		b.Data = c.take(c.number())
		x.Blocks = append(x.Blocks, b)
	}
	all, e := dict.Read(names, pairs)
	if c.wrong || e != api.OK {
		return api.Six{}, false
	}
	x.Dest, x.Source, x.Report, x.Custodian, all = all[0], all[1], all[2], all[3], all[4:]
	for _, b := range x.Blocks {
		all = all[copy(b.Refs, all):]
	}
	if !plainRight(x) || plainBytes(x) != s {
		return api.Six{}, false
	}
	return x, true
}

// plainSame is what the chapter says of Same: nil and empty lists are one.
func plainSame(a api.Six, b api.Six) bool { return reflect.DeepEqual(copied(a), copied(b)) }

// copied is the same bundle in lists of its own.
func copied(x api.Six) api.Six {
	x.Blocks = append([]api.Block{}, x.Blocks...)
	for i := range x.Blocks {
		x.Blocks[i].Refs = append([]api.Eid{}, x.Blocks[i].Refs...)
	}
	return x
}

// told keeps what is told of great bundles and long texts readable.
func told(x any) string {
	s := fmt.Sprintf("%+v", x)
	return strconv.Quote(s[:min(len(s), 300)])
}

// wantBundle holds all that is answered of a bundle, right or not, against what the chapter says.
func wantBundle(t *testing.T, x api.Six) {
	t.Helper()
	right := plainRight(x)
	if got := six.Right(x); got != right {
		t.Errorf("Right(%v) = %v", told(x), got)
	}
	if !six.Same(x, copied(x)) {
		t.Errorf("%v is not the same as itself", told(x))
	}
	load := ""
	if len(x.Blocks) > 0 {
		load = x.Blocks[len(x.Blocks)-1].Data
	}
	if got := six.Load(x); got != load {
		t.Errorf("Load(%v) = %v", told(x), told(got))
	}
	s, e := six.Encode(x)
	if !right {
		if s != "" || e != api.ErrSix {
			t.Errorf("Encode(%v) = %v, %d", told(x), told(s), e)
		}
		return
	}
	if want := plainBytes(x); s != want || e != api.OK {
		t.Errorf("Encode(%v) = %v, %d; want %v", told(x), told(s), e, told(want))
	}
	wantParse(t, plainBytes(x), x)
}

func wantRight(t *testing.T, x api.Six) {
	t.Helper()
	if !plainRight(x) {
		t.Errorf("%v is not right", told(x))
	}
	wantBundle(t, x)
}

func wantWrong(t *testing.T, x api.Six) {
	t.Helper()
	if plainRight(x) {
		t.Errorf("%v is right", told(x))
	}
	wantBundle(t, x)
}

func wantParse(t *testing.T, s string, want api.Six) {
	t.Helper()
	if x, e := six.Parse(s); !plainSame(x, want) || e != api.OK {
		t.Errorf("Parse(%v) = %v, %d; want %v", told(s), told(x), e, told(want))
	}
}

func wantNoParse(t *testing.T, s string) {
	t.Helper()
	if x, e := six.Parse(s); !plainSame(x, api.Six{}) || e != api.ErrSix {
		t.Errorf("Parse(%v) = %v, %d", told(s), told(x), e)
	}
}

// wantPlain wants of any bytes what the chapter says of them.
func wantPlain(t *testing.T, s string) {
	t.Helper()
	if x, right := plainParse(s); right {
		wantParse(t, s, x)
	} else {
		wantNoParse(t, s)
	}
}

// P8.1: what the chapter's table says.
func TestExample(t *testing.T) {
	wantRight(t, example())
	wantParse(t, "\x06\x10\x0c\x02\x01\x01\x01\x00\x00\x00\x00\x00\x00\x09\x00\x01\x08\x02hi", example())
}

// P8.1, written out: a dictionary, a part of a bundle, blocks that refer to names.
func TestBytes(t *testing.T) {
	wantParse(t, "\x06\x04\x0c\x00\x00\x00\x00\x00\x00\x00\x00\x00\x00\x00\x00\x01\x08\x00", least())
	names := "dtn\x00//a/b\x00ipn\x00300.0\x00//a/\x0014.7\x00none\x00"
	wantParse(t, "\x06\x81\x81\x39\x32\x00\x04\x0a\x0e\x00\x14\x0a\x19\x82\x2c\x05\x3c\x23"+names+"\x02\x07\x05\x41\x02\x0a\x0e\x00\x04\x01x\xff\x60\x01\x00\x1e\x00\x02\x00\x02yz\x01\x08\x03abc", full())
}

// P8.1, P8.2
func TestRightOnes(t *testing.T) {
	for _, x := range rightOnes() {
		wantRight(t, x)
	}
}

// P8.1: all flags that a bundle may have, and others.
func TestFlags(t *testing.T) {
	bare := example()
	bare.Custodian, bare.Source = none(), none()
	keeps := full()
	keeps.Blocks = keeps.Blocks[3:]
	for _, x := range []api.Six{example(), bare, keeps} {
		for low := range 1024 {
			for high := range 33 {
				x.Flags = low + 16384*high
				wantBundle(t, x)
				// Without the flag Fragment none of its numbers may be there.
				y := x
				y.Off, y.Total = 0, 9*(x.Flags%2)
				wantBundle(t, y)
			}
		}
		for bit := range 64 {
			for _, f := range []int{0, api.Whole, api.Fragment, api.Whole | api.Single, api.Admin | api.Whole} {
				x.Flags = f | 1<<bit
				wantBundle(t, x)
				x.Flags = -x.Flags
				wantBundle(t, x)
				x.Flags = f - 1<<bit
				wantBundle(t, x)
			}
		}
	}
}

// P8.1: flags that don't go with each other, one by one.
func TestFlagsTogether(t *testing.T) {
	all := []int{api.Custody, api.Ack, api.Received, api.Accepted, api.Forwarded, api.Delivered, api.Deleted}
	for _, f := range all {
		x := example()
		x.Flags = f
		wantRight(t, x)
		x.Flags = f | api.Admin
		wantWrong(t, x)
		x.Flags, x.Source = f|api.Whole, none()
		if f == api.Ack {
			wantRight(t, x)
		} else {
			wantWrong(t, x)
		}
	}
	for _, f := range []int{api.Admin, api.Single, api.Priority, 2 * api.Priority, 0} {
		x := example()
		x.Flags, x.Source = f, none()
		wantWrong(t, x)
		x.Flags = f | api.Whole
		wantRight(t, x)
		x.Flags = f | api.Whole | api.Fragment
		wantWrong(t, x)
	}
}

// edges are where a number may begin or stop to be right.
func edges() []int {
	l := []int{math.MinInt, math.MinInt + 1, math.MaxInt, math.MaxInt - 1, math.MaxInt - 600, -1 << 48, -1 << 32}
	for _, n := range []int{0, 8, 32, 64, 128, 256, 300, 600, 601, 16384, 1 << 31, 1 << 32, 281474976710, 281474976710 - 600, 281474976710655, 281474976710655 - 600} {
		l = append(l, n-2, n-1, n, n+1, n+2)
	}
	return l
}

// fields are a bundle's numbers.
func fields(x *api.Six) []*int {
	l := []*int{&x.Flags, &x.Time, &x.Seq, &x.Life, &x.Off, &x.Total}
	for i := range x.Blocks {
		b := &x.Blocks[i]
		l = append(l, &b.Type, &b.Num, &b.Flags, &b.Sum)
	}
	return l
}

// nameFields are a bundle's names, also those that its blocks refer to.
func nameFields(x *api.Six) []*api.Eid {
	l := []*api.Eid{&x.Dest, &x.Source, &x.Report, &x.Custodian}
	for i := range x.Blocks {
		for j := range x.Blocks[i].Refs {
			l = append(l, &x.Blocks[i].Refs[j])
		}
	}
	return l
}

// P8.1: each number at its edges.
func TestNumbers(t *testing.T) {
	for _, x := range rightOnes() {
		for i := range fields(&x) {
			for _, n := range edges() {
				y := copied(x)
				*fields(&y)[i] = n
				wantBundle(t, y)
				if six.Same(x, y) != plainSame(x, y) || six.Same(y, x) != plainSame(x, y) {
					t.Errorf("Same(%v, %v) is not %v", told(x), told(y), plainSame(x, y))
				}
			}
		}
	}
}

// P8.1: a part is within the whole, whatever is great.
func TestParts(t *testing.T) {
	for _, data := range []string{"", "a", "hi", strings.Repeat("a", 600)} {
		for _, off := range edges() {
			for _, total := range edges() {
				x := example()
				x.Flags, x.Off, x.Total = api.Fragment, off, total
				// Other blocks' data does not count.
				x.Blocks = []api.Block{block(2, 0, "abcdef"), payload(data)}
				wantBundle(t, x)
			}
			x := example()
			x.Off, x.Total = off, off
			wantBundle(t, x)
		}
	}
}

// wrongNames are of no endpoint.
func wrongNames() []api.Eid {
	return []api.Eid{
		{Scheme: -1}, {Scheme: 3}, {Scheme: math.MaxInt}, {A: 1}, {B: 7}, {Node: "a"}, {Service: "a"},
		dtn("", ""), dtn("A", ""), dtn("a\x00", "b"), dtn("a", "\xff"), dtn(strings.Repeat("a", 21), ""), dtn("a", strings.Repeat("a", 21)),
		{Scheme: api.Dtn, Node: "a", A: 1}, ipn(0, 0), ipn(-1, 0), ipn(4, -1), ipn(1000000000, 0), ipn(4, 1000000000), {Scheme: api.Ipn, A: 4, Node: "a"},
	}
}

// P8.1: each name, also those that blocks refer to.
func TestNames(t *testing.T) {
	for _, x := range rightOnes() {
		for i := range nameFields(&x) {
			for _, e := range append(wrongNames(), none(), dtn("a", "b"), dtn("z", ""), ipn(1, 0), ipn(999999999, 999999999)) {
				y := copied(x)
				*nameFields(&y)[i] = e
				wantBundle(t, y)
				if !eid.Right(e) {
					wantWrong(t, y)
				}
				if six.Same(x, y) != plainSame(x, y) || six.Same(y, x) != plainSame(x, y) {
					t.Errorf("Same(%v, %v) is not %v", told(x), told(y), plainSame(x, y))
				}
			}
		}
	}
}

// P8.1: Custodian and Source hang on flags.
func TestCustody(t *testing.T) {
	x := example()
	x.Custodian = ipn(3, 0)
	wantWrong(t, x)
	x.Flags |= api.Custody
	wantRight(t, x)
	x.Custodian = none()
	wantRight(t, x)
	x.Source = none()
	wantWrong(t, x)
	x.Flags |= api.Whole
	wantWrong(t, x)
	x.Flags = api.Whole | api.Ack
	wantRight(t, x)
}

// P8.1: how many blocks there are, and which is the last one.
func TestHowManyBlocks(t *testing.T) {
	for n := range 12 {
		x := example()
		x.Blocks = append(slices.Repeat([]api.Block{block(2, api.Told, "x", none())}, n), payload("hi"))
		if n <= 7 {
			wantRight(t, x)
		} else {
			wantWrong(t, x)
			wantNoParse(t, plainBytes(x))
		}
		x.Blocks = x.Blocks[:n]
		wantWrong(t, x)
		for i := range x.Blocks {
			x.Blocks[i] = payload("hi")
		}
		wantBundle(t, x)
	}
	x := example()
	x.Blocks = nil
	wantWrong(t, x)
}

// P8.1: how many bytes and names a block has.
func TestHowMuchInBlocks(t *testing.T) {
	for _, n := range []int{0, 1, 127, 128, 599, 600, 601, 602, 1000, 1 << 20} {
		x := example()
		x.Blocks = []api.Block{block(2, 0, strings.Repeat("a", n)), payload("")}
		wantBundle(t, x)
		x.Blocks = []api.Block{block(2, 0, ""), payload(strings.Repeat("\x00", n))}
		wantBundle(t, x)
		if n > 600 {
			wantNoParse(t, plainBytes(x))
		}
	}
	for n := range 40 {
		for _, flags := range []int{0, api.Named} {
			for place := range 3 {
				x := example()
				x.Blocks = []api.Block{block(2, 0, ""), block(3, 0, "y"), payload("z")}
				x.Blocks[place].Refs = slices.Repeat([]api.Eid{dtn("a", "b")}, n)
				x.Blocks[place].Flags |= flags
				wantBundle(t, x)
				x.Blocks[place].Refs = parts(n)
				wantBundle(t, x)
			}
		}
	}
}

func parts(count int) []api.Eid {
	var l []api.Eid
	for i := range count {
		l = append(l, ipn(i+1, i))
	}
	return l
}

// P8.1: all types and flags of a block.
func TestBlocks(t *testing.T) {
	for n := -2; n < 300; n++ {
		for place := range 2 {
			x := example()
			x.Blocks = []api.Block{block(2, 0, "a"), payload("b")}
			x.Blocks[place].Type = n
			wantBundle(t, x)
			for _, refs := range [][]api.Eid{nil, {}, {none()}, parts(3), parts(4)} {
				y := copied(x)
				y.Blocks[place].Type, y.Blocks[place].Flags, y.Blocks[place].Refs = 2-place, n, refs
				wantBundle(t, y)
			}
		}
	}
}

// P8.1: the same, field by field, also of wrong bundles.
func TestSame(t *testing.T) {
	all := append(rightOnes(), api.Six{}, api.Six{Flags: -1, Seq: math.MinInt}, api.Six{Blocks: []api.Block{{}}}, api.Six{Blocks: []api.Block{{}, {}}})
	for _, e := range wrongNames() {
		all = append(all, api.Six{Dest: e}, api.Six{Source: e}, api.Six{Report: e}, api.Six{Custodian: e}, api.Six{Blocks: []api.Block{{Refs: []api.Eid{e}}}}, api.Six{Blocks: []api.Block{{Refs: []api.Eid{e, e}}}})
	}
	for _, x := range all[:12] {
		for i := range x.Blocks {
			less, more, other, fewer := copied(x), copied(x), copied(x), copied(x)
			less.Blocks = slices.Delete(less.Blocks, i, i+1)
			more.Blocks = slices.Insert(more.Blocks, i, more.Blocks[i])
			other.Blocks[i].Data += "\x00"
			fewer.Blocks[i].Refs = append(fewer.Blocks[i].Refs, none())
			all = append(all, less, more, other, fewer)
		}
	}
	for i, a := range all {
		for j, b := range all {
			if got := six.Same(a, b); got != plainSame(a, b) || i == j && !got {
				t.Errorf("Same(%v, %v) = %v", told(a), told(b), got)
			}
		}
	}
}

// R3: nil and empty lists are one.
func TestEmptyLists(t *testing.T) {
	a, b := example(), example()
	b.Blocks[0].Refs = []api.Eid{}
	if !six.Same(a, b) || !six.Same(b, a) || !six.Same(api.Six{}, api.Six{Blocks: []api.Block{}}) {
		t.Error("nil and empty lists are told from each other")
	}
	wantRight(t, b)
	wantWrong(t, api.Six{Blocks: []api.Block{}})
}

// P8.1: the data of the last block, of any bundle.
func TestLoad(t *testing.T) {
	for want, x := range map[string]api.Six{
		"":     {},
		"hi":   example(),
		"abc":  full(),
		"b":    {Flags: -1, Blocks: []api.Block{{Type: 1, Data: "a"}, {Type: 300, Data: "b"}}},
		"\x00": {Blocks: []api.Block{payload("a"), {Data: "\x00"}}},
	} {
		if got := six.Load(x); got != want {
			t.Errorf("Load(%v) = %v", told(x), told(got))
		}
	}
	if got := six.Load(api.Six{Blocks: []api.Block{payload("a"), {}}}); got != "" {
		t.Errorf("Load of an empty last block = %v", told(got))
	}
}

// otherBytes are those that a text is tried with: all, or, in a long one, a few that tell much.
func otherBytes(s string) []string {
	var l []string
	for b := range 256 {
		if len(s) < 1000 || b&(b+1) == 0 || b&(b-1) == 0 {
			l = append(l, string([]byte{byte(b)}))
		}
	}
	return l
}

// P8.1, P8.2: whatever byte is put into a bundle's bytes, taken out, or another one.
func TestParseChanged(t *testing.T) {
	for _, x := range rightOnes() {
		s := plainBytes(x)
		for i := range len(s) {
			wantNoParse(t, s[:i])
			if i > 0 {
				wantPlain(t, s[i:])
			}
			if len(s) > 1000 && i > 600 && i%97 != 0 {
				continue
			}
			wantPlain(t, s[:i]+s[i+1:])
			for _, c := range otherBytes(s) {
				wantPlain(t, s[:i]+c+s[i+1:])
				wantPlain(t, s[:i]+c+s[i:])
			}
		}
		for b := range 256 {
			wantNoParse(t, s+string([]byte{byte(b)}))
		}
		wantNoParse(t, s+s)
	}
}

// P8.1, P8.2: pieces left out, told twice, or exchanged.
func TestParsePieces(t *testing.T) {
	for _, x := range []api.Six{least(), example(), full()} {
		s := plainBytes(x)
		for i := range len(s) + 1 {
			for j := i; j <= len(s); j++ {
				wantPlain(t, s[:i]+s[j:])
				wantPlain(t, s[:j]+s[i:])
				if j < len(s) && i < j {
					wantPlain(t, s[:i]+s[j:j+1]+s[i+1:j]+s[i:i+1]+s[j+1:])
				}
			}
		}
	}
}

// P8.1: numbers that are told in too many groups, are too great, or not those of what stands there.
func TestParseNumbers(t *testing.T) {
	head := "\x02\x01\x01\x01\x00\x00\x00\x00\x00\x00\x09\x00"
	body := "\x01\x08\x02hi"
	wantParse(t, "\x06\x10\x0c"+head+body, example())
	for _, version := range []string{"", "\x00", "\x05", "\x07", "\x86", "\x06\x06", "\x9f", "6"} {
		wantNoParse(t, version+"\x10\x0c"+head+body)
	}
	for n := range 300 {
		if n != 12 {
			wantNoParse(t, "\x06\x10"+plainGroups(n)+head+body)
		}
	}
	for _, n := range []int{1 << 31, 1<<32 + 12, 281474976710655, 281474976710656, math.MaxInt} {
		wantNoParse(t, "\x06\x10"+plainGroups(n)+head+body)
		wantNoParse(t, "\x06\x10\x10"+head[:11]+plainGroups(n)+body)
		wantNoParse(t, "\x06\x10\x0c"+head+"\x01\x08"+plainGroups(n)+"hi")
		wantNoParse(t, "\x06\x10\x0c"+head+"\x02\x40"+plainGroups(n)+"\x00\x00\x00"+body)
		wantNoParse(t, "\x06"+plainGroups(n)+"\x0c"+head+body)
		wantNoParse(t, "\x06\x10\x0c"+head+"\x02"+plainGroups(n)+"\x00"+body)
	}
	for i := range len(head) {
		wantNoParse(t, "\x06\x10\x0d"+head[:i]+"\x80"+head[i:]+body)
	}
	wantNoParse(t, "\x06\x80\x10\x0c"+head+body)
	wantNoParse(t, "\x06\x10\x80\x0c"+head+body)
	wantNoParse(t, "\x06\x10\x0c"+head+"\x01\x80\x08\x02hi")
	wantNoParse(t, "\x06\x10\x0c"+head+"\x01\x08\x80\x02hi")
	wantNoParse(t, "\x06\x10\x0c"+head)
	// Named, without names.
	wantNoParse(t, "\x06\x10\x0c"+head+"\x02\x40\x00\x00"+body)
	// A name of its own, though it is told that there is a dictionary.
	wantNoParse(t, "\x06\x10\x10"+head[:11]+"\x04dtn\x00"+body)
}

// P8.1: blocks behind the last one, or none that is.
func TestParseBlocks(t *testing.T) {
	head := "\x06\x10\x0c\x02\x01\x01\x01\x00\x00\x00\x00\x00\x00\x09\x00"
	last, other := "\x01\x08\x02hi", "\x02\x00\x00"
	for n := range 12 {
		s := head + strings.Repeat(other, n)
		wantNoParse(t, s)
		wantPlain(t, s+last)
		wantNoParse(t, s+last+other)
		wantNoParse(t, s+last+last)
		wantNoParse(t, s+"\x01\x00\x02hi")
		wantNoParse(t, s+"\x02\x08\x02hi")
		wantNoParse(t, s+"\x02\x08\x02hi"+last)
		wantNoParse(t, s+"\x01\x00\x02hi"+last)
		wantNoParse(t, s+"\x00\x00\x02hi"+last)
		wantNoParse(t, s+"\x01\x48\x01\x00\x00\x02hi")
	}
}

// randomBundle is one that is often right.
func randomBundle(r *rand.Rand) api.Six {
	pool := []api.Eid{none(), ipn(4, 7), ipn(1, 0), ipn(300, 16384)}
	if r.Intn(2) == 0 {
		pool = append(pool, dtn("a", "b"), dtn("a", ""), dtn("none", "ipn"), dtn("a", "/b"))
	}
	name := func() api.Eid { return pool[r.Intn(len(pool))] }
	number := func(most int) int { return r.Intn(most>>r.Intn(40) + 1) }
	x := api.Six{Flags: r.Intn(8)<<4 | r.Intn(5), Dest: name(), Source: name(), Report: name(), Time: number(281474976710), Seq: number(281474976710655), Life: number(281474976710)}
	x.Flags = x.Flags &^ api.Timed
	if r.Intn(3) == 0 {
		x.Flags |= api.Custody
		x.Custodian = name()
	}
	x.Flags |= r.Intn(3)*api.Priority | r.Intn(2)*r.Intn(32)*api.Received
	for range r.Intn(8) {
		var refs []api.Eid
		for range r.Intn(4) {
			refs = append(refs, name())
		}
		x.Blocks = append(x.Blocks, block(2+r.Intn(254), r.Intn(64)&^api.Last, strings.Repeat("x", r.Intn(200)), refs...))
	}
	x.Blocks = append(x.Blocks, payload(strings.Repeat("y", r.Intn(601))))
	if x.Flags&api.Fragment != 0 {
		x.Off = number(281474976710655 - 601)
		x.Total = x.Off + 600 - r.Intn(2)
	}
	return x
}

// P8.1, P8.2: there and back.
func TestRandom(t *testing.T) {
	r := rand.New(rand.NewSource(8))
	right := 0
	for range 20000 {
		x := randomBundle(r)
		wantBundle(t, x)
		if !plainRight(x) {
			continue
		}
		right++
		s := plainBytes(x)
		i := r.Intn(len(s))
		wantPlain(t, s[:i]+string([]byte{byte(r.Intn(256))})+s[i+1:])
	}
	if right < 5000 {
		t.Errorf("only %d bundles were right", right)
	}
}

// P8.2: what is parsed, of whatever bytes, has just these.
func TestParsedHasTheseBytes(t *testing.T) {
	r := rand.New(rand.NewSource(86))
	for range 200000 {
		b := []byte("\x06\x10\x0c\x02\x01\x01\x01\x00\x00\x00\x00\x00\x00\x09\x00\x01\x08\x02hi")
		for range 1 + r.Intn(3) {
			b[r.Intn(len(b))] = byte(r.Intn(256) >> r.Intn(8))
		}
		x, e := six.Parse(string(b))
		if e != api.OK {
			wantPlain(t, string(b))
			continue
		}
		if s, wrong := six.Encode(x); s != string(b) || wrong != api.OK {
			t.Errorf("Parse(%v) = %v, which has %v, %d", told(string(b)), told(x), told(s), wrong)
		}
	}
}

// R1: much of anything is refused too.
func TestMuch(t *testing.T) {
	head := "\x06\x10\x0c\x02\x01\x01\x01\x00\x00\x00\x00\x00\x00\x09\x00"
	for _, c := range []string{"\x00", "\x01", "\x06", "\x7f", "\x80", "\xff", "a", "\x02\x00\x00", "\x01\x08\x00", "\x02\x40\x00\x00"} {
		s := strings.Repeat(c, 1<<20)
		wantNoParse(t, s)
		for _, ahead := range []string{"\x06", "\x06\x10", "\x06\x10\x0c", head[:14], head, head + "\x01\x08", head + "\x02\x40", head + "\x02\x40\x03", head + "\x02\x40\xff\xff\x7f"} {
			wantNoParse(t, ahead+s)
		}
		wantNoParse(t, plainBytes(example())+s)
		x := example()
		x.Blocks[0].Data = s
		wantWrong(t, x)
		x.Blocks[0].Data, x.Dest = "", dtn(s, s)
		wantWrong(t, x)
	}
	x := example()
	x.Blocks = append(make([]api.Block, 1<<20), x.Blocks...)
	wantWrong(t, x)
	x = example()
	x.Blocks = append([]api.Block{{Type: 2, Flags: api.Named, Refs: make([]api.Eid, 1<<20)}}, x.Blocks...)
	wantWrong(t, x)
}

// R3: what is handed in is not written into, nor its spare room, nor kept.
func TestHandedIn(t *testing.T) {
	x, y := full(), full()
	x.Blocks = append(make([]api.Block, 0, 20), x.Blocks...)
	for i := range x.Blocks {
		x.Blocks[i].Refs = append(make([]api.Eid, 0, 20), x.Blocks[i].Refs...)
	}
	s, _ := six.Encode(x)
	six.Right(x)
	six.Load(x)
	if !six.Same(x, y) || !six.Same(y, x) {
		t.Errorf("handed in was %v", told(x))
	}
	for i, b := range x.Blocks[:20] {
		if i >= len(y.Blocks) {
			if !reflect.DeepEqual(b, api.Block{}) {
				t.Errorf("in the spare room stands %v", told(b))
			}
			continue
		}
		for _, e := range b.Refs[len(b.Refs):20] {
			if e != none() {
				t.Errorf("in the spare room stands %v", e)
			}
		}
	}
	clear(x.Blocks)
	if s != plainBytes(y) {
		t.Errorf("Encode = %v", told(s))
	}
}

// R3: what is answered is new memory each time, and no two lists of it share any.
func TestAnswered(t *testing.T) {
	for _, want := range []api.Six{full(), greatest()} {
		s := plainBytes(want)
		for i := range want.Blocks {
			x, _ := six.Parse(s)
			y := copied(x)
			refs := x.Blocks[i].Refs
			clear(refs[:cap(refs)])
			y.Blocks[i].Refs = make([]api.Eid, len(refs))
			if !plainSame(x, y) {
				t.Errorf("the names of block %d share memory: %v", i, told(x))
			}
			clear(x.Blocks[:cap(x.Blocks)])
			wantParse(t, s, want)
		}
	}
}

// R4: calls leave nothing behind that another one could tell.
func TestKeepsNothing(t *testing.T) {
	for _, x := range rightOnes() {
		s := plainBytes(x)
		wantNoParse(t, s[:len(s)-1])
		wantWrong(t, api.Six{Flags: x.Flags})
		wantRight(t, x)
		wantRight(t, least())
		wantNoParse(t, s[:len(s)/2])
		wantRight(t, x)
	}
}
