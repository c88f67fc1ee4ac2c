package adm7_test

import (
	"encoding/binary"
	"fmt"
	"math"
	"math/rand"
	"reflect"
	"slices"
	"strconv"
	"strings"
	"testing"

	"postrider/adm7"
	"postrider/api"
	"postrider/eid"
)

const maxNum = 281474976710655

func none() api.Eid { return api.Eid{} }

func dtn(node string, service string) api.Eid {
	return api.Eid{Scheme: api.Dtn, Node: node, Service: service}
}

func ipn(a int, b int) api.Eid { return api.Eid{Scheme: api.Ipn, A: a, B: b} }

func longest() api.Eid { return dtn(strings.Repeat("a", 20), strings.Repeat("/", 20)) }

// reportExample, pduExample and acksExample are right ones of few bytes.
func reportExample() api.Report {
	return api.Report{Bits: 5, Times: []int{9, 10}, Source: ipn(1, 1), Time: 7, Seq: 3}
}

func pduExample() api.Pdu { return api.Pdu{Id: 3, Due: 9, Data: "hi"} }

// acksExample is that of the chapter's table.
func acksExample() api.Acks { return api.Acks{Ids: []int{3, 5}} }

// upTo are the numbers from one on, so many.
func upTo(first int, count int) []int {
	var l []int
	for i := range count {
		l = append(l, first+i)
	}
	return l
}

// rightReports are reports that have bytes.
func rightReports() []api.Report {
	return []api.Report{
		reportExample(),
		{Bits: 1, Times: []int{0}},
		{Bits: 4, Times: []int{300}, Reason: 255, Part: true, Off: 2, Len: 128},
		{Bits: 29, Times: []int{4, 3, 2, 1}, Reason: 24, Source: ipn(300, 65536), Time: 23, Seq: 24},
		{Bits: 29, Times: slices.Repeat([]int{maxNum}, 4), Reason: 255, Source: longest(), Time: maxNum, Seq: maxNum, Part: true, Off: 5, Len: maxNum - 5},
		{Bits: 8, Times: []int{1 << 32}, Reason: 23, Source: dtn("earth", "news"), Part: true},
		{Bits: 24, Times: []int{9, 9}, Reason: 10, Source: ipn(999999999, 999999999), Time: 128, Seq: 16384, Part: true, Off: maxNum},
		{Bits: 16, Times: []int{127}, Source: dtn("earth", ""), Time: 1, Part: true, Len: maxNum},
	}
}

// rightPdus are pdus that have bytes.
func rightPdus() []api.Pdu {
	return []api.Pdu{
		pduExample(),
		{Data: "\x00"},
		{Id: 24, Due: 300, Data: strings.Repeat("\xff", 24)},
		{Id: maxNum, Due: maxNum, Data: strings.Repeat("a", 255)},
		{Id: 65536, Due: 1 << 32, Data: strings.Repeat("\x82\x03", 128)},
		{Id: 1, Data: strings.Repeat("\x00", 560)},
	}
}

// rightAcks are acks that have bytes.
func rightAcks() []api.Acks {
	return []api.Acks{
		acksExample(),
		{Ids: []int{0}},
		{Reason: 255, Ids: []int{maxNum}},
		{Reason: 24, Ids: []int{0, 23, 24, 255, 256, 65535, 65536, 1<<32 - 1, 1 << 32, maxNum}},
		{Reason: 4, Ids: upTo(0, 20)},
		{Reason: 1, Ids: upTo(maxNum-19, 20)},
	}
}

func plainNumber(n int) bool { return 0 <= n && n <= maxNum }

// plainReport is what the chapters say of a report that is right here, sentence by sentence.
func plainReport(x api.Report) bool {
	left, count := x.Bits, 0
	for _, bit := range []int{16, 8, 4, 1} {
		if left >= bit {
			left -= bit
			count++
		}
	}
	if x.Bits <= 0 || left != 0 || len(x.Times) != count {
		return false
	}
	for _, at := range x.Times {
		if !plainNumber(at) {
			return false
		}
	}
	if x.Reason < 0 || x.Reason > 255 || !eid.Right(x.Source) || !plainNumber(x.Time) || !plainNumber(x.Seq) {
		return false
	}
	if !x.Part {
		return x.Off == 0 && x.Len == 0
	}
	return plainNumber(x.Off) && x.Len >= 0 && x.Len <= maxNum-x.Off
}

func plainPdu(x api.Pdu) bool {
	return plainNumber(x.Id) && plainNumber(x.Due) && x.Data != "" && len(x.Data) <= 560
}

func plainAcks(x api.Acks) bool {
	if x.Reason < 0 || x.Reason > 255 || len(x.Ids) == 0 || len(x.Ids) > 20 {
		return false
	}
	for i, id := range x.Ids {
		if !plainNumber(id) || i > 0 && x.Ids[i-1] >= id {
			return false
		}
	}
	return true
}

// plainHead is what stands ahead of an item, as chapter 3 says it.
func plainHead(major int, n int) string {
	b := []byte{byte(major << 5)}
	switch {
	case n < 24:
		b[0] += byte(n)
	case n < 1<<8:
		b[0] += 24
		b = append(b, byte(n))
	case n < 1<<16:
		b[0] += 25
		b = binary.BigEndian.AppendUint16(b, uint16(n))
	case n < 1<<32:
		b[0] += 26
		b = binary.BigEndian.AppendUint32(b, uint32(n))
	default:
		b[0] += 27
		b = binary.BigEndian.AppendUint64(b, uint64(n))
	}
	return string(b)
}

func plainNumbers(list ...int) string {
	s := ""
	for _, n := range list {
		s += plainHead(0, n)
	}
	return s
}

func plainData(s string) string { return plainHead(2, len(s)) + s }

func plainName(e api.Eid) string {
	switch e.Scheme {
	case api.Dtn:
		rest := "//" + e.Node + "/" + e.Service
		return "\x82\x01" + plainHead(3, len(rest)) + rest
	case api.Ipn:
		return "\x82\x02\x82" + plainNumbers(e.A, e.B)
	}
	return "\x82\x01\x00"
}

// reportBytes, pduBytes and acksBytes are those of right ones, as the chapter says them.
func reportBytes(x api.Report) string {
	s, used := "\x84", 0
	for _, bit := range []int{1, 4, 8, 16} {
		if x.Bits/bit%2 == 0 {
			s += "\x81\x00"
			continue
		}
		s += "\x82\x01" + plainNumbers(x.Times[used])
		used++
	}
	s += plainNumbers(x.Reason) + plainName(x.Source) + "\x82" + plainNumbers(x.Time, x.Seq)
	if x.Part {
		return "\x82\x01\x86" + s + plainNumbers(x.Off, x.Len)
	}
	return "\x82\x01\x84" + s
}

func pduBytes(x api.Pdu) string {
	return "\x82\x03\x83" + plainNumbers(x.Id, x.Due) + plainData(x.Data)
}

func acksBytes(x api.Acks) string {
	return "\x82\x04\x82" + plainNumbers(x.Reason) + plainHead(4, len(x.Ids)) + plainNumbers(x.Ids...)
}

// cursor reads a text front to back, till something is wrong.
type cursor struct {
	left  string
	wrong bool
}

func (c *cursor) take(n int) string {
	if c.wrong || n < 0 || n > len(c.left) {
		c.wrong = true
		return ""
	}
	s := c.left[:n]
	c.left = c.left[n:]
	return s
}

// head reads one of any width, and answers its major too.
func (c *cursor) head() (int, int) {
	s := c.take(1)
	if s == "" {
		return 0, 0
	}
	n, width := int(s[0]%32), 0
	if 24 <= n && n < 28 {
		width, n = 1<<(n-24), 0
	}
	for _, b := range []byte(c.take(width)) {
		n = n<<8 + int(b)
	}
	return int(s[0] / 32), n
}

// number is the argument of a head of any major.
func (c *cursor) number() int {
	_, n := c.head()
	return n
}

func (c *cursor) name() api.Eid {
	c.take(2)
	switch major, n := c.head(); major {
	case 3:
		node, service, _ := strings.Cut(strings.TrimPrefix(c.take(n), "//"), "/")
		return dtn(node, service)
	case 4:
		return ipn(c.number(), c.number())
	}
	return none()
}

// plainReadReport, plainReadPdu and plainReadAcks read a record, and tell whether it is a right one that has just these bytes.
func plainReadReport(s string) (api.Report, bool) {
	c := cursor{left: s}
	c.take(2)
	x := api.Report{Part: c.number() == 6}
	c.take(1)
	for _, bit := range []int{1, 4, 8, 16} {
		c.take(1)
		if c.number() == 1 {
			x.Bits += bit
			x.Times = append(x.Times, c.number())
		}
	}
	x.Reason, x.Source = c.number(), c.name()
	c.take(1)
	x.Time, x.Seq = c.number(), c.number()
	if x.Part {
		x.Off, x.Len = c.number(), c.number()
	}
	if c.wrong || !plainReport(x) || reportBytes(x) != s {
		return api.Report{}, false
	}
	return x, true
}

func plainReadPdu(s string) (api.Pdu, bool) {
	c := cursor{left: s}
	c.take(3)
	x := api.Pdu{Id: c.number(), Due: c.number()}
	x.Data = c.take(c.number())
	if c.wrong || !plainPdu(x) || pduBytes(x) != s {
		return api.Pdu{}, false
	}
	return x, true
}

func plainReadAcks(s string) (api.Acks, bool) {
	c := cursor{left: s}
	c.take(3)
	x := api.Acks{Reason: c.number()}
	count := c.number()
	for len(x.Ids) < count && len(x.Ids) < 21 && !c.wrong {
		x.Ids = append(x.Ids, c.number())
	}
	if c.wrong || !plainAcks(x) || acksBytes(x) != s {
		return api.Acks{}, false
	}
	return x, true
}

// copied is the same report in a list of its own: nil and empty lists are one.
func copied(x api.Report) api.Report {
	x.Times = append([]int{}, x.Times...)
	return x
}

func sameReport(a api.Report, b api.Report) bool { return reflect.DeepEqual(copied(a), copied(b)) }

func sameAcks(a api.Acks, b api.Acks) bool {
	return a.Reason == b.Reason && slices.Equal(a.Ids, b.Ids)
}

// told keeps what is told of long lists and texts readable.
func told(x any) string {
	s := fmt.Sprintf("%+v", x)
	return strconv.Quote(s[:min(len(s), 300)])
}

// wantLaid wants bytes, or where there are none the chapter's error.
func wantLaid(t *testing.T, x any, s string, e api.Errno, want string) {
	t.Helper()
	switch {
	case want == "" && (s != "" || e != api.ErrRecord7):
		t.Errorf("the bytes of %v are %v, %d; want error 120", told(x), told(s), e)
	case want != "" && (s != want || e != api.OK):
		t.Errorf("the bytes of %v are %v, %d; want %v", told(x), told(s), e, told(want))
	}
}

// wantReport holds all that is answered of a report, right or not, against what the chapter says.
func wantReport(t *testing.T, x api.Report) {
	t.Helper()
	right, want := plainReport(x), ""
	if got := adm7.Right(x); got != right {
		t.Errorf("Right(%v) = %v", told(x), got)
	}
	if right {
		want = reportBytes(x)
		wantReadReport(t, want, x)
	}
	s, e := adm7.Report(x)
	wantLaid(t, x, s, e, want)
}

// wantPdu does so of a pdu.
func wantPdu(t *testing.T, x api.Pdu) {
	t.Helper()
	want := ""
	if plainPdu(x) {
		want = pduBytes(x)
		wantReadPdu(t, want, x)
	}
	s, e := adm7.Pdu(x)
	wantLaid(t, x, s, e, want)
}

// wantAcks does so of acks.
func wantAcks(t *testing.T, x api.Acks) {
	t.Helper()
	want := ""
	if plainAcks(x) {
		want = acksBytes(x)
		wantReadAcks(t, want, x)
	}
	s, e := adm7.Acks(x)
	wantLaid(t, x, s, e, want)
}

// wantRight fails unless the reference has what is handed in for right, or wrong, as the test does.
func wantRight(t *testing.T, x any, right bool, want bool) {
	t.Helper()
	if right != want {
		t.Errorf("%v is right: %v; want %v", told(x), right, want)
	}
}

func wantReports(t *testing.T, want bool, list ...api.Report) {
	t.Helper()
	for _, x := range list {
		wantRight(t, x, plainReport(x), want)
		wantReport(t, x)
	}
}

func wantPdus(t *testing.T, want bool, list ...api.Pdu) {
	t.Helper()
	for _, x := range list {
		wantRight(t, x, plainPdu(x), want)
		wantPdu(t, x)
	}
}

func wantAllAcks(t *testing.T, want bool, list ...api.Acks) {
	t.Helper()
	for _, x := range list {
		wantRight(t, x, plainAcks(x), want)
		wantAcks(t, x)
	}
}

func wantReadReport(t *testing.T, s string, want api.Report) {
	t.Helper()
	if x, e := adm7.ReadReport(s); !sameReport(x, want) || e != api.OK {
		t.Errorf("ReadReport(%v) = %v, %d; want %v", told(s), told(x), e, told(want))
	}
	wantNoPdu(t, s)
	wantNoAcks(t, s)
	wantKind(t, s, 1)
}

func wantReadPdu(t *testing.T, s string, want api.Pdu) {
	t.Helper()
	if x, e := adm7.ReadPdu(s); x != want || e != api.OK {
		t.Errorf("ReadPdu(%v) = %v, %d; want %v", told(s), told(x), e, told(want))
	}
	wantNoReport(t, s)
	wantNoAcks(t, s)
	wantKind(t, s, 3)
}

func wantReadAcks(t *testing.T, s string, want api.Acks) {
	t.Helper()
	if x, e := adm7.ReadAcks(s); !sameAcks(x, want) || e != api.OK {
		t.Errorf("ReadAcks(%v) = %v, %d; want %v", told(s), told(x), e, told(want))
	}
	wantNoReport(t, s)
	wantNoPdu(t, s)
	wantKind(t, s, 4)
}

func wantNoReport(t *testing.T, s string) {
	t.Helper()
	if x, e := adm7.ReadReport(s); !sameReport(x, api.Report{}) || e != api.ErrRecord7 {
		t.Errorf("ReadReport(%v) = %v, %d", told(s), told(x), e)
	}
}

func wantNoPdu(t *testing.T, s string) {
	t.Helper()
	if x, e := adm7.ReadPdu(s); x != (api.Pdu{}) || e != api.ErrRecord7 {
		t.Errorf("ReadPdu(%v) = %v, %d", told(s), told(x), e)
	}
}

func wantNoAcks(t *testing.T, s string) {
	t.Helper()
	if x, e := adm7.ReadAcks(s); !sameAcks(x, api.Acks{}) || e != api.ErrRecord7 {
		t.Errorf("ReadAcks(%v) = %v, %d", told(s), told(x), e)
	}
}

func wantKind(t *testing.T, s string, want int) {
	t.Helper()
	if got := adm7.Kind(s); got != want {
		t.Errorf("Kind(%v) = %d; want %d", told(s), got, want)
	}
}

func wantNone(t *testing.T, list ...string) {
	t.Helper()
	for _, s := range list {
		wantNoReport(t, s)
		wantNoPdu(t, s)
		wantNoAcks(t, s)
		wantKind(t, s, 0)
	}
}

// wantPlain wants of any bytes what the chapter says of them.
func wantPlain(t *testing.T, list ...string) {
	t.Helper()
	for _, s := range list {
		x, report := plainReadReport(s)
		y, pdu := plainReadPdu(s)
		z, acks := plainReadAcks(s)
		switch {
		case report:
			wantReadReport(t, s, x)
		case pdu:
			wantReadPdu(t, s, y)
		case acks:
			wantReadAcks(t, s, z)
		default:
			wantNone(t, s)
		}
	}
}

// P12.1: what the chapter's table says.
func TestExample(t *testing.T) {
	wantAllAcks(t, true, acksExample())
	wantReadAcks(t, "\x82\x04\x82\x00\x82\x03\x05", acksExample())
}

// P12.1, P12.2, written out: of each kind, with long numbers too.
func TestBytes(t *testing.T) {
	wantReadReport(t, "\x82\x01\x84\x84\x82\x01\x09\x82\x01\x0a\x81\x00\x81\x00\x00\x82\x02\x82\x01\x01\x82\x07\x03", reportExample())
	wantReadReport(t, "\x82\x01\x84\x84\x82\x01\x00\x81\x00\x81\x00\x81\x00\x00\x82\x01\x00\x82\x00\x00", api.Report{Bits: 1, Times: []int{0}})
	wantReadReport(t, "\x82\x01\x86\x84\x81\x00\x81\x00\x82\x01\x19\x01\x2c\x82\x01\x05\x18\xff\x82\x01\x6c//earth/news\x82\x18\x80\x19\x01\x2c\x02\x18\x80", api.Report{Bits: 24, Times: []int{300, 5}, Reason: 255, Source: dtn("earth", "news"), Time: 128, Seq: 300, Part: true, Off: 2, Len: 128})
	wantReadReport(t, "\x82\x01\x84\x84\x82\x01\x04\x82\x01\x03\x82\x01\x02\x82\x01\x01\x00\x82\x01\x00\x82\x1b\x00\x00\xff\xff\xff\xff\xff\xff\x00", api.Report{Bits: 29, Times: []int{4, 3, 2, 1}, Time: maxNum})
	wantReadPdu(t, "\x82\x03\x83\x03\x09\x42hi", pduExample())
	wantReadPdu(t, "\x82\x03\x83\x1b\x00\x00\xff\xff\xff\xff\xff\xff\x19\x01\x2c\x58\x18"+strings.Repeat("\xff", 24), api.Pdu{Id: maxNum, Due: 300, Data: strings.Repeat("\xff", 24)})
	wantReadPdu(t, "\x82\x03\x83\x00\x00\x59\x02\x30"+strings.Repeat("a", 560), api.Pdu{Data: strings.Repeat("a", 560)})
	wantReadAcks(t, "\x82\x04\x82\x18\xff\x81\x00", api.Acks{Reason: 255, Ids: []int{0}})
	wantReadAcks(t, "\x82\x04\x82\x17\x94\x01\x02\x03\x04\x05\x06\x07\x08\x09\x0a\x0b\x0c\x0d\x0e\x0f\x10\x11\x12\x13\x14", api.Acks{Reason: 23, Ids: upTo(1, 20)})
}

// P12.1 to P12.3
func TestRightOnes(t *testing.T) {
	wantReports(t, true, rightReports()...)
	wantPdus(t, true, rightPdus()...)
	wantAllAcks(t, true, rightAcks()...)
}

// P12.1: all bits, with as many times as they are, with fewer, and with more.
func TestBits(t *testing.T) {
	times := []int{5, 4, 3, 2, 1, 0, 6, 7}
	x := reportExample()
	for bits := -3; bits < 300; bits++ {
		for count := range times {
			x.Bits, x.Times = bits, times[:count]
			wantReport(t, x)
		}
	}
	for bit := range 64 {
		for count := range times {
			for _, low := range []int{0, 1, 5, 16, 29, 31} {
				x.Bits, x.Times = low|1<<bit, times[:count]
				wantReport(t, x)
				x.Bits = low - 1<<bit
				wantReport(t, x)
			}
		}
	}
	x.Bits, x.Times = 0, nil
	wantReports(t, false, x)
	x.Bits, x.Times = 32, nil
	wantReports(t, false, x)
}

// P12.1: Kept is no bit here, whatever else is, and however many times there are.
func TestKept(t *testing.T) {
	for bits := range 32 {
		for count := range 7 {
			x := reportExample()
			x.Bits, x.Times = bits|api.Kept, make([]int, count)
			wantReports(t, false, x)
		}
	}
}

// edges are where a number may begin or stop to be right.
func edges() []int {
	l := []int{math.MinInt, math.MinInt + 1, math.MaxInt, math.MaxInt - 1, math.MaxInt - maxNum, -1 << 48, -1 << 32}
	for _, n := range []int{0, 3, 5, 7, 9, 16, 23, 24, 31, 32, 128, 255, 256, 300, 65535, 65536, 1 << 32, 281474976710, maxNum, maxNum - 5} {
		l = append(l, n-2, n-1, n, n+1, n+2)
	}
	return l
}

func reportFields(x *api.Report) []*int {
	l := []*int{&x.Bits, &x.Reason, &x.Time, &x.Seq, &x.Off, &x.Len}
	for i := range x.Times {
		l = append(l, &x.Times[i])
	}
	return l
}

// P12.1: each number at its edges, of a part and not.
func TestNumbers(t *testing.T) {
	for _, n := range edges() {
		for _, x := range rightReports() {
			for i := range reportFields(&x) {
				y := copied(x)
				*reportFields(&y)[i] = n
				wantReport(t, y)
				y.Part = !y.Part
				wantReport(t, y)
			}
		}
		for _, x := range rightPdus() {
			wantPdu(t, api.Pdu{Id: n, Due: x.Due, Data: x.Data})
			wantPdu(t, api.Pdu{Id: x.Id, Due: n, Data: x.Data})
		}
		for _, x := range rightAcks() {
			wantAcks(t, api.Acks{Reason: n, Ids: x.Ids})
			for i := range x.Ids {
				ids := slices.Clone(x.Ids)
				ids[i] = n
				wantAcks(t, api.Acks{Reason: x.Reason, Ids: ids})
			}
		}
	}
}

// P12.1: what the edges of numbers are, one by one.
func TestLimits(t *testing.T) {
	for past := range 2 {
		right := past == 0
		for _, change := range []func(x *api.Report){
			func(x *api.Report) { x.Reason = 255 + past },
			func(x *api.Report) { x.Reason = -past },
			func(x *api.Report) { x.Times[0] = maxNum + past },
			func(x *api.Report) { x.Times[1] = -past },
			func(x *api.Report) { x.Time = maxNum + past },
			func(x *api.Report) { x.Time = -past },
			func(x *api.Report) { x.Seq = maxNum + past },
			func(x *api.Report) { x.Seq = -past },
			func(x *api.Report) { x.Off = past },
			func(x *api.Report) { x.Len = past },
			func(x *api.Report) { x.Part, x.Off, x.Len = true, 1, maxNum-1+past },
			func(x *api.Report) { x.Part, x.Off, x.Len = true, -past, 1 },
			func(x *api.Report) { x.Part, x.Off, x.Len = true, 1, -past },
		} {
			x := reportExample()
			change(&x)
			wantReports(t, right, x)
		}
		wantPdus(t, right,
			api.Pdu{Id: -past, Due: 9, Data: "a"}, api.Pdu{Id: maxNum + past, Due: 9, Data: "a"},
			api.Pdu{Id: 3, Due: -past, Data: "a"}, api.Pdu{Id: 3, Due: maxNum + past, Data: "a"},
			api.Pdu{Id: 3, Due: 9, Data: strings.Repeat("a", 1-past)}, api.Pdu{Id: 3, Due: 9, Data: strings.Repeat("a", 560+past)})
		wantAllAcks(t, right,
			api.Acks{Reason: -past, Ids: []int{3, 5}}, api.Acks{Reason: 255 + past, Ids: []int{3, 5}},
			api.Acks{Ids: []int{-past, 5}}, api.Acks{Ids: []int{3, maxNum + past}},
			api.Acks{Ids: []int{4 + past, 5, 6}}, api.Acks{Ids: []int{4, 5, 6 - past}}, api.Acks{Ids: []int{4 + 2*past, 5}},
			api.Acks{Ids: upTo(7, 1-past)}, api.Acks{Ids: upTo(7, 20+past)})
	}
}

// P12.1: a part's numbers are together a number, whatever is great.
func TestParts(t *testing.T) {
	for _, off := range edges() {
		for _, size := range edges() {
			x := reportExample()
			x.Off, x.Len = off, size
			wantReport(t, x)
			x.Part = true
			wantReport(t, x)
		}
	}
}

// P12.1: data of any length, also such as items of Bytes may have, and such as none may have.
func TestDataLengths(t *testing.T) {
	for n := range 700 {
		wantPdus(t, 1 <= n && n <= 560, api.Pdu{Id: 1, Due: 2, Data: strings.Repeat("\x81", n)})
		wantPlain(t, "\x82\x03\x83\x01\x02"+plainData(strings.Repeat("a", n)))
		wantPlain(t, "\x82\x03\x83\x01\x02"+plainHead(3, n)+strings.Repeat("a", n))
	}
	for b := range 256 {
		wantPdus(t, true, api.Pdu{Data: string([]byte{byte(b)})})
	}
}

// P12.1: any count of ids, rising or not.
func TestIds(t *testing.T) {
	for n := range 64 {
		wantAllAcks(t, 1 <= n && n <= 20, api.Acks{Ids: upTo(1, n)})
		wantPlain(t, "\x82\x04\x82\x00"+plainHead(4, n)+plainNumbers(upTo(1, n)...))
		wantAllAcks(t, n == 1, api.Acks{Ids: make([]int, n)})
	}
	for _, a := range []int{-1, 0, 1, 2, 3} {
		for _, b := range []int{-1, 0, 1, 2, 3} {
			for _, c := range []int{-1, 0, 1, 2, 3} {
				wantAllAcks(t, 0 <= a && a < b && b < c, api.Acks{Ids: []int{a, b, c}})
				if a >= 0 && b >= 0 && c >= 0 {
					wantPlain(t, "\x82\x04\x82\x00\x83"+plainNumbers(a, b, c))
				}
			}
		}
	}
	for place := range 19 {
		ids := upTo(10, 20)
		ids[place], ids[place+1] = ids[place+1], ids[place]
		wantAllAcks(t, false, api.Acks{Ids: ids})
		ids[place] = ids[place+1]
		wantAllAcks(t, false, api.Acks{Ids: ids})
	}
}

// wrongNames are of no endpoint.
func wrongNames() []api.Eid {
	return []api.Eid{
		{Scheme: -1}, {Scheme: 3}, {Scheme: math.MaxInt}, {A: 1}, {B: 7}, {Node: "a"}, {Service: "a"},
		dtn("", ""), dtn("A", ""), dtn("a\x00", "b"), dtn("a", "\xff"), dtn(strings.Repeat("a", 21), ""), dtn("a", strings.Repeat("a", 21)),
		{Scheme: api.Dtn, Node: "a", A: 1}, ipn(0, 0), ipn(-1, 0), ipn(4, -1), ipn(1000000000, 0), ipn(4, 1000000000), {Scheme: api.Ipn, A: 4, Node: "a"},
	}
}

// P12.1: the source's name.
func TestNames(t *testing.T) {
	for _, x := range rightReports() {
		for _, e := range wrongNames() {
			x.Source = e
			wantReports(t, false, x)
		}
		for _, e := range []api.Eid{none(), dtn("a", "b"), dtn("z", ""), dtn("-.9", "/"), longest(), ipn(1, 0), ipn(999999999, 999999999)} {
			x.Source = e
			wantReports(t, true, x)
		}
	}
}

// P12.1: items in the source's place that are no name's.
func TestReadNames(t *testing.T) {
	for _, own := range []string{"\x82\x02\x82\x01\x01", "\x82\x01\x00", "\x82\x01\x65//a/b", "\x82\x01\x64//a/"} {
		s := "\x82\x01\x84\x84\x82\x01\x09\x82\x01\x0a\x81\x00\x81\x00\x00" + own + "\x82\x07\x03"
		if _, right := plainReadReport(s); !right {
			t.Errorf("%q is no report", s)
		}
		wantPlain(t, s)
	}
	for _, other := range []string{
		"", "\x00", "\x01", "\x40", "\x60", "\x80", "\x81\x00", "\x81\x01", "\x82\x00\x00", "\x82\x01\x01", "\x82\x02\x00", "\x82\x03\x00", "\x83\x01\x00\x00",
		"\x82\x01\x64none", "\x82\x01\x45//a/b", "\x82\x02\x65//a/b", "\x82\x01\x60", "\x82\x01\x63//a", "\x82\x01\x65//A/b", "\x82\x01\x68dtn:none", "\x65//a/b",
		"\x82\x02\x82\x00\x01", "\x82\x02\x81\x01", "\x82\x02\x83\x01\x01\x01", "\x82\x01\x82\x01\x01", "\x82\x02\x82\x1a\x3b\x9a\xca\x00\x01", "\x82\x02\x82\x41\x01\x01", "\x82\x02\x63\x31.1",
	} {
		for _, part := range []string{"", "\x02\x03"} {
			wantNone(t, plainHead(4, 2)+"\x01"+plainHead(4, 4+len(part))+"\x84\x82\x01\x09\x82\x01\x0a\x81\x00\x81\x00\x00"+other+"\x82\x07\x03"+part)
		}
	}
}

// P12.1: what may stand in the statuses' place, and in each one's.
func TestReadStatuses(t *testing.T) {
	pieces := []string{"\x81\x00", "\x81\x01", "\x82\x01\x07", "\x82\x00\x07", "\x82\x01\x00", "\x82\x02\x07", "\x82\x01\x41\x07", "\x83\x01\x07\x07", "\x81\x02", "\x81\x81\x00", "\x81\x40", "\x80", "\x00", "\x01", "\x40", "\x41\x01", "\x60", "\x82\x01\x1b\x00\x00\xff\xff\xff\xff\xff\xff"}
	behind := "\x00\x82\x02\x82\x01\x01\x82\x07\x03"
	for _, a := range pieces {
		for _, b := range pieces {
			for _, ahead := range []string{"\x81\x00", "\x82\x01\x05"} {
				wantPlain(t, "\x82\x01\x84\x84"+ahead+ahead+a+b+behind)
				wantPlain(t, "\x82\x01\x84\x84"+a+b+ahead+ahead+behind)
				wantPlain(t, "\x82\x01\x84\x84"+a+ahead+ahead+b+behind)
			}
			wantNone(t, "\x82\x01\x84\x80"+behind, "\x82\x01\x84\x81"+a+behind, "\x82\x01\x84\x82"+a+b+behind, "\x82\x01\x84\x83"+a+b+a+behind, "\x82\x01\x84\x85"+a+b+a+b+a+behind)
		}
	}
	wantNone(t, "\x82\x01\x84\x00"+behind, "\x82\x01\x84\x40"+behind, "\x82\x01\x84\x44\x81\x00\x81\x00"+behind)
	// Nothing happened at all.
	wantNone(t, "\x82\x01\x84\x84\x81\x00\x81\x00\x81\x00\x81\x00"+behind)
	// More than all that may have happened.
	all := strings.Repeat("\x82\x01\x05", 4)
	wantReadReport(t, "\x82\x01\x84\x84"+all+behind, api.Report{Bits: 29, Times: []int{5, 5, 5, 5}, Source: ipn(1, 1), Time: 7, Seq: 3})
	wantNone(t, "\x82\x01\x84\x85"+all+"\x82\x01\x05"+behind, "\x82\x01\x84\x85"+all+"\x81\x00"+behind)
}

// P12.1, P12.2: more, or fewer, than a record's list has, and other kinds around it.
func TestReadLists(t *testing.T) {
	list := "\x84\x82\x01\x09\x82\x01\x0a\x81\x00\x81\x00\x00\x82\x02\x82\x01\x01\x82\x07\x03"
	wantReadReport(t, "\x82\x01\x84"+list, reportExample())
	for count := range 10 {
		for more := range 8 {
			wantPlain(t, "\x82\x01"+plainHead(4, count)+list+strings.Repeat("\x02", more))
		}
	}
	for kind := range 300 {
		for _, part := range []string{"\x84" + list, "\x86" + list + "\x02\x03", "\x83\x03\x09\x42hi", "\x82\x00\x82\x03\x05", "\x80", "\x00"} {
			wantPlain(t, "\x82"+plainNumbers(kind)+part)
		}
	}
	for _, part := range []string{"\x84" + list, "\x83\x03\x09\x42hi", "\x82\x00\x82\x03\x05"} {
		for _, kind := range []string{"\x01", "\x03", "\x04"} {
			wantNone(t, "\x81"+kind, "\x81"+part, "\x83"+kind+part+"\x00", "\x82"+part+kind, "\x82\x81"+kind+part, "\x82\x41"+kind+part, "\x82\x61"+kind+part)
			wantNone(t, "\x82\x18"+kind+part, "\x98\x02"+kind+part, "\x9f"+kind+part+"\xff", "\x81\x82"+kind+part, kind+part, part, "\x42"+kind+part)
		}
	}
	wantNone(t, "\x82\x03\x82\x03\x09", "\x82\x03\x83\x03\x09\x40", "\x82\x03\x83\x03\x09\x62hi", "\x82\x03\x84\x03\x09\x42hi\x00", "\x82\x03\x83\x03\x09\x05", "\x82\x03\x83\x03\x42hi\x09", "\x82\x03\x83\x41\x03\x09\x42hi")
	wantNone(t, "\x82\x04\x82\x00\x80", "\x82\x04\x81\x00", "\x82\x04\x83\x00\x82\x03\x05\x00", "\x82\x04\x82\x82\x03\x05\x00", "\x82\x04\x82\x00\x42\x03\x05", "\x82\x04\x82\x40\x82\x03\x05", "\x82\x04\x82\x00\x82\x41\x03\x05", "\x82\x04\x82\x00\x82\x81\x03\x05", "\x82\x04\x83\x00\x03\x05")
	// Much of what none may have.
	wantNone(t, "", "\x80", "\x82", strings.Repeat("\x81", 7)+"\x00", plainHead(4, 60)+strings.Repeat("\x00", 60), plainHead(4, 61)+strings.Repeat("\x00", 61))
}

// allBytes are those of right records of all kinds.
func allBytes() []string {
	var l []string
	for _, x := range rightReports() {
		l = append(l, reportBytes(x))
	}
	for _, x := range rightPdus() {
		l = append(l, pduBytes(x))
	}
	for _, x := range rightAcks() {
		l = append(l, acksBytes(x))
	}
	return l
}

// P12.1 to P12.3: whatever byte is put into a record's bytes, taken out, or another one.
func TestReadChanged(t *testing.T) {
	t.Parallel()
	heads := strings.Split("\x00\x01\x02\x03\x04\x17\x18\x19\x1a\x1b\x40\x41\x58\x60\x61\x80\x81\x82\x83\x84\x85\x86\x98\x9f\xff", "")
	for _, s := range allBytes() {
		for i := range len(s) {
			wantNone(t, s[:i])
			// Deep in long data one byte is as good as another.
			if 30 < i && i < len(s)-20 && len(s) > 200 && i%50 != 0 {
				continue
			}
			wantPlain(t, s[i:], s[:i]+s[i+1:])
			for b := range 256 {
				wantPlain(t, s[:i]+string([]byte{byte(b)})+s[i+1:])
			}
			for _, c := range heads {
				wantPlain(t, s[:i]+c+s[i:])
			}
		}
		for b := range 256 {
			wantNone(t, s+string([]byte{byte(b)}))
		}
		wantNone(t, s+s)
	}
}

// P12.1, P12.2: pieces left out, told twice, or exchanged.
func TestReadPieces(t *testing.T) {
	t.Parallel()
	for _, s := range allBytes() {
		if len(s) > 200 {
			continue
		}
		for i := range len(s) + 1 {
			for j := i; j <= len(s); j++ {
				wantPlain(t, s[:i]+s[j:], s[:j]+s[i:])
				if j < len(s) && i < j {
					wantPlain(t, s[:i]+s[j:j+1]+s[i+1:j]+s[i:i+1]+s[j+1:])
				}
			}
		}
	}
}

// P12.1 to P12.3: what begins as one record, and ends as another one.
func TestReadMixed(t *testing.T) {
	t.Parallel()
	for _, a := range allBytes() {
		for _, b := range allBytes() {
			if len(a) > 60 || len(b) > 60 {
				continue
			}
			for i := range len(a) {
				for j := range len(b) {
					wantPlain(t, a[:i]+b[j:])
				}
			}
		}
	}
}

// P12.1: heads that are longer than they need to be, or too short for their number.
func TestReadHeads(t *testing.T) {
	long := func(major int, n int) []string {
		first := func(width int) string { return string([]byte{byte(major<<5 + width)}) }
		wide := binary.BigEndian.AppendUint64(nil, uint64(n))
		return []string{first(24) + string(wide[7:]), first(25) + string(wide[6:]), first(26) + string(wide[4:]), first(27) + string(wide), first(28), first(31)}
	}
	for _, n := range edges() {
		if n < 0 {
			continue
		}
		for _, s := range append(long(0, n), plainNumbers(n)) {
			wantPlain(t,
				"\x82"+s+"\x83\x03\x09\x42hi",
				"\x82\x03\x83"+s+"\x09\x42hi", "\x82\x03\x83\x03"+s+"\x42hi",
				"\x82\x04\x82"+s+"\x82\x03\x05", "\x82\x04\x82\x00\x81"+s, "\x82\x04\x82\x00\x82"+s+"\x1b\x00\x00\xff\xff\xff\xff\xff\xff", "\x82\x04\x82\x00\x82\x00"+s,
				"\x82\x01\x84\x84\x82"+s+"\x09\x81\x00\x81\x00\x81\x00\x00\x82\x01\x00\x82\x07\x03",
				"\x82\x01\x84\x84\x82\x01"+s+"\x81\x00\x81\x00\x81\x00\x00\x82\x01\x00\x82\x07\x03",
				"\x82\x01\x84\x84\x82\x01\x09\x81"+s+"\x81\x00\x81\x00\x00\x82\x01\x00\x82\x07\x03",
				"\x82\x01\x84\x84\x82\x01\x09\x81\x00\x81\x00\x81\x00"+s+"\x82\x01\x00\x82\x07\x03",
				"\x82\x01\x84\x84\x82\x01\x09\x81\x00\x81\x00\x81\x00\x00\x82\x01\x00\x82"+s+"\x03",
				"\x82\x01\x84\x84\x82\x01\x09\x81\x00\x81\x00\x81\x00\x00\x82\x01\x00\x82\x07"+s,
				"\x82\x01\x86\x84\x82\x01\x09\x81\x00\x81\x00\x81\x00\x00\x82\x01\x00\x82\x07\x03"+s+"\x05",
				"\x82\x01\x86\x84\x82\x01\x09\x81\x00\x81\x00\x81\x00\x00\x82\x01\x00\x82\x07\x03\x05"+s)
		}
	}
	for _, s := range long(4, 2) {
		wantNone(t, s+"\x03\x83\x03\x09\x42hi", s+"\x04\x82\x00\x82\x03\x05", "\x82\x04"+s+"\x00\x82\x03\x05", "\x82\x04\x82\x00"+s+"\x03\x05")
	}
	for _, s := range long(2, 2) {
		wantNone(t, "\x82\x03\x83\x03\x09"+s+"hi")
	}
}

// random is a record of each kind, all often right.
func random(r *rand.Rand) (api.Report, api.Pdu, api.Acks) {
	number := func(most int) int { return r.Intn(most>>r.Intn(48) + 1) }
	pool := []api.Eid{none(), ipn(4, 7), ipn(300, 16384), dtn("a", "b"), dtn("none", ""), dtn("a", "/b"), dtn("A", "")}
	x := api.Report{Bits: r.Intn(33) &^ (2 * r.Intn(2)), Reason: number(256), Source: pool[r.Intn(len(pool))], Time: number(maxNum), Seq: number(maxNum), Part: r.Intn(2) == 0}
	for bit := 1; bit <= 16; bit *= 2 {
		if x.Bits&bit != 0 || r.Intn(40) == 0 {
			x.Times = append(x.Times, number(maxNum))
		}
	}
	if x.Part {
		x.Off = number(maxNum)
		x.Len = number(maxNum + 1 - x.Off)
	}
	y := api.Pdu{Id: number(maxNum + 1), Due: number(maxNum + 1), Data: strings.Repeat(strconv.Itoa(r.Intn(10)), r.Intn(565)>>r.Intn(6))}
	z := api.Acks{Reason: number(256)}
	for range r.Intn(22) {
		z.Ids = append(z.Ids, number(maxNum))
	}
	if r.Intn(4) > 0 {
		slices.Sort(z.Ids)
		z.Ids = slices.Compact(z.Ids)
	}
	return x, y, z
}

// P12.1 to P12.3: there and back.
func TestRandom(t *testing.T) {
	t.Parallel()
	r := rand.New(rand.NewSource(12))
	right := 0
	for range 20000 {
		x, y, z := random(r)
		wantReport(t, x)
		wantPdu(t, y)
		wantAcks(t, z)
		if !plainReport(x) || !plainPdu(y) || !plainAcks(z) {
			continue
		}
		right++
		for _, s := range []string{reportBytes(x), pduBytes(y), acksBytes(z)} {
			i := r.Intn(len(s))
			wantPlain(t, s[:i]+string([]byte{byte(r.Intn(256))})+s[i+1:])
		}
	}
	if right < 3000 {
		t.Errorf("only %d records of each kind were right", right)
	}
}

// P12.3: what is read, of whatever bytes, has just these, and is of one kind.
func TestReadHasTheseBytes(t *testing.T) {
	t.Parallel()
	r := rand.New(rand.NewSource(123))
	all := allBytes()
	for range 100000 {
		b := []byte(all[r.Intn(len(all))])
		for range 1 + r.Intn(3) {
			b[r.Intn(len(b))] = byte(r.Intn(256) >> r.Intn(8))
		}
		s, kinds := string(b), 0
		wantPlain(t, s)
		if x, e := adm7.ReadReport(s); e == api.OK {
			kinds++
			own, f := adm7.Report(x)
			wantLaid(t, x, own, f, s)
		}
		if x, e := adm7.ReadPdu(s); e == api.OK {
			kinds++
			own, f := adm7.Pdu(x)
			wantLaid(t, x, own, f, s)
		}
		if x, e := adm7.ReadAcks(s); e == api.OK {
			kinds++
			own, f := adm7.Acks(x)
			wantLaid(t, x, own, f, s)
		}
		if kinds > 1 {
			t.Errorf("%q are bytes of %d kinds", s, kinds)
		}
	}
}

// R1: much of anything is refused too.
func TestMuch(t *testing.T) {
	for _, c := range []string{"\x00", "\x01", "\x1b", "\x40", "\x5b", "\x60", "\x80", "\x81", "\x82", "\x82\x01", "\x82\x03", "\x98\x3c", "\x9b", "\x9f", "\xff", "a", "\x82\x04\x82\x00\x82\x03\x05"} {
		s := strings.Repeat(c, 1<<20)
		wantNone(t, s)
		for _, ahead := range []string{"\x82", "\x82\x01", "\x82\x01\x84\x84", "\x82\x01\x84\x84\x82\x01", "\x82\x03", "\x82\x03\x83\x03\x09", "\x82\x03\x83\x03\x09\x59\x02\x58", "\x82\x03\x83\x03\x09\x5a\x00\x10\x00\x00", "\x82\x04\x82\x00", "\x82\x04\x82\x00\x9a\x00\x10\x00\x00", "\x82\x04\x82\x00\x9b\x00\x00\xff\xff\xff\xff\xff\xff"} {
			wantNone(t, ahead+s)
		}
		for _, all := range []string{reportBytes(reportExample()), pduBytes(pduExample()), acksBytes(acksExample())} {
			wantNone(t, all+s)
		}
		x := reportExample()
		x.Source = dtn(s, s)
		wantReports(t, false, x)
		wantPdus(t, false, api.Pdu{Data: s})
	}
	for _, n := range []int{0, 1, 29, 1 << 20, math.MaxInt, -1} {
		x := reportExample()
		x.Bits, x.Times = n, make([]int, 1<<20)
		wantReports(t, false, x)
		wantAllAcks(t, false, api.Acks{Reason: n, Ids: upTo(1, 1<<20)})
	}
}

// R3: nil and empty lists are one.
func TestEmptyLists(t *testing.T) {
	wantReports(t, false, api.Report{}, api.Report{Times: []int{}}, api.Report{Bits: 1}, api.Report{Bits: 1, Times: []int{}})
	wantAllAcks(t, false, api.Acks{}, api.Acks{Ids: []int{}})
	wantPdus(t, false, api.Pdu{})
}

// R3: what is handed in is not written into, nor its spare room, nor kept.
func TestHandedIn(t *testing.T) {
	x, z := reportExample(), acksExample()
	x.Times = append(make([]int, 0, 20), 9, 10)
	z.Ids = append(make([]int, 0, 20), 3, 5)
	s, _ := adm7.Report(x)
	u, _ := adm7.Acks(z)
	adm7.Right(x)
	if !sameReport(x, reportExample()) || !sameAcks(z, acksExample()) {
		t.Errorf("handed in were %v, %v", told(x), told(z))
	}
	for _, n := range slices.Concat(x.Times[2:20], z.Ids[2:20]) {
		if n != 0 {
			t.Errorf("in the spare room stands %d", n)
		}
	}
	clear(x.Times)
	clear(z.Ids)
	if s != reportBytes(reportExample()) || u != acksBytes(acksExample()) {
		t.Errorf("the bytes are %q, %q", s, u)
	}
}

// R3: what is answered is new memory each time.
func TestAnswered(t *testing.T) {
	for _, want := range rightReports() {
		s := reportBytes(want)
		x, _ := adm7.ReadReport(s)
		y, _ := adm7.ReadReport(s)
		clear(x.Times[:cap(x.Times)])
		if !sameReport(y, want) {
			t.Errorf("two answers share memory: %v", told(y))
		}
		wantReadReport(t, s, want)
	}
	for _, want := range rightAcks() {
		s := acksBytes(want)
		x, _ := adm7.ReadAcks(s)
		y, _ := adm7.ReadAcks(s)
		clear(x.Ids[:cap(x.Ids)])
		if !sameAcks(y, want) {
			t.Errorf("two answers share memory: %v", told(y))
		}
		wantReadAcks(t, s, want)
	}
}

// R4: calls leave nothing behind that another one could tell.
func TestKeepsNothing(t *testing.T) {
	for i, y := range rightPdus() {
		x, z := rightReports()[i], rightAcks()[i]
		s, u := reportBytes(x), acksBytes(z)
		wantNone(t, s[:len(s)-1])
		wantReports(t, false, api.Report{Bits: x.Bits})
		wantReports(t, true, x)
		wantPdus(t, true, y)
		wantAllAcks(t, true, z)
		wantNone(t, u[:len(u)/2])
		wantPdus(t, false, api.Pdu{Id: y.Id})
		wantAllAcks(t, false, api.Acks{Reason: z.Reason})
		wantReports(t, true, reportExample())
		wantAllAcks(t, true, z)
		wantPdus(t, true, y)
		wantReports(t, true, x)
	}
}
