package xlate_test

import (
	"encoding/binary"
	"encoding/hex"
	"fmt"
	"hash/crc32"
	"math"
	"math/rand"
	"reflect"
	"slices"
	"strings"
	"testing"

	"postrider/adm6"
	"postrider/adm7"
	"postrider/api"
	"postrider/ext"
	"postrider/seven"
	"postrider/signs"
	"postrider/six"
	"postrider/xlate"
)

const (
	maxNum  = 281474976710655
	maxTime = 281474976710
)

func none() api.Eid { return api.Eid{} }

func dtn(node string, service string) api.Eid {
	return api.Eid{Scheme: api.Dtn, Node: node, Service: service}
}

func ipn(a int, b int) api.Eid { return api.Eid{Scheme: api.Ipn, A: a, B: b} }

func longest() api.Eid { return dtn(strings.Repeat("a", 20), strings.Repeat("/", 20)) }

func names() []api.Eid {
	return []api.Eid{none(), ipn(3, 0), ipn(999999999, 999999999), dtn("a", ""), dtn("earth", "news"), longest()}
}

func blocks(l ...api.Block) []api.Block { return l }

// block6 is one of version 6, block7 one of version 7; load6 and load7 are last ones.
func block6(kind int, flags int, data string) api.Block {
	return api.Block{Type: kind, Flags: flags, Data: data}
}

func block7(kind int, num int, flags int, data string) api.Block {
	return api.Block{Type: kind, Num: num, Flags: flags, Data: data}
}

func load6(data string) api.Block { return block6(1, 8, data) }

func load7(data string) api.Block { return block7(1, 1, 0, data) }

// six1 is the bundle of the chapter's table, seven1 is what it goes to.
func six1() api.Six {
	return api.Six{Flags: 16, Dest: ipn(2, 1), Source: ipn(1, 1), Time: 5, Life: 9, Blocks: blocks(load6("hi"))}
}

func seven1() api.Seven {
	return api.Seven{Sum: 2, Dest: ipn(2, 1), Source: ipn(1, 1), Time: 5000, Life: 9000, Blocks: blocks(load7("hi"))}
}

// six2 has some of all, and goes to seven2.
func six2() api.Six {
	return api.Six{
		Flags: 1 + 8 + 16 + 32 + 2*128 + 16384 + 65536 + 131072 + 262144,
		Dest:  dtn("mars", "in/1"), Source: dtn("earth", "news"), Report: ipn(7, 8), Custodian: ipn(3, 0),
		Time: maxTime, Seq: maxNum, Life: 1, Off: 4, Total: 300,
		Blocks: blocks(block6(207, 1, "\x09"), block6(5, 2+4, ""), block6(206, 16, "\x82\x01\x00"), block6(5, 0, "\xff\x00"), block6(210, 4, "\x82\x03\x01"), load6("some data")),
	}
}

func seven2() api.Seven {
	return api.Seven{
		Flags: 1 + 32 + 64 + 16384 + 65536 + 131072 + 262144, Sum: 2,
		Dest: dtn("mars", "in/1"), Source: dtn("earth", "news"), Report: ipn(7, 8),
		Time: maxTime * 1000, Seq: maxNum, Life: 1000, Off: 4, Total: 300,
		Blocks: blocks(block7(192, 2, 0, "\x83\x02\x01\x82\x02\x82\x03\x00"), block7(7, 3, 1, "\x09"), block7(5, 4, 2+4, ""), block7(6, 5, 16, "\x82\x01\x00"), block7(5, 6, 0, "\xff\x00"), block7(10, 7, 4, "\x82\x03\x01"), load7("some data")),
	}
}

// report6 and report7 are one report in both versions, reportBytes6 and reportBytes7 its bytes there.
func report6() api.Report {
	return api.Report{Bits: 5, Times: []int{9, 10}, Source: ipn(1, 1), Time: 7, Seq: 3}
}

func report7() api.Report {
	return api.Report{Bits: 5, Times: []int{9000, 10000}, Source: ipn(1, 1), Time: 7000, Seq: 3}
}

const (
	reportBytes6 = "\x10\x05\x00\x09\x00\x0a\x00\x07\x03\x07ipn:1.1"
	reportBytes7 = "\x82\x01\x84\x84\x82\x01\x19\x23\x28\x82\x01\x19\x27\x10\x81\x00\x81\x00\x00\x82\x02\x82\x01\x01\x82\x19\x1b\x58\x03"
	keptBytes6   = "\x10\x03\x00\x09\x00\x0a\x00\x07\x03\x07ipn:1.1"
	unevenBytes7 = "\x82\x01\x84\x84\x82\x01\x09\x82\x01\x0a\x81\x00\x81\x00\x00\x82\x02\x82\x01\x01\x82\x07\x03"
	signalBytes  = "\x20\x80\x05\x00\x07\x03\x07ipn:1.1"
	pduBytes     = "\x82\x03\x83\x03\x09\x42hi"
	acksBytes    = "\x82\x04\x82\x00\x82\x03\x05"
)

// admin6 and admin7 are bundles whose payload is to be a record.
func admin6(load string) api.Six {
	x := six1()
	x.Flags |= api.Admin
	x.Blocks = blocks(block6(5, 0, "ahead"), load6(load))
	return x
}

func admin7(load string) api.Seven {
	x := seven1()
	x.Flags |= api.Admin
	x.Blocks = blocks(block7(5, 2, 0, "ahead"), load7(load))
	return x
}

// with6, with7 and withReport are bundles, and reports, but for what is done to them: their lists are their own.
func with6(x api.Six, change func(x *api.Six)) api.Six {
	x.Blocks = slices.Clone(x.Blocks)
	change(&x)
	return x
}

func with7(x api.Seven, change func(x *api.Seven)) api.Seven {
	x.Blocks = slices.Clone(x.Blocks)
	change(&x)
	return x
}

func withReport(x api.Report, change func(x *api.Report)) api.Report {
	x.Times = slices.Clone(x.Times)
	change(&x)
	return x
}

// classed are version 7's blocks behind one that tells a class.
func classed(data string, l ...api.Block) []api.Block {
	l = append(blocks(block7(192, 2, 0, data)), l...)
	for i := range l {
		l[i].Num = i + 2
	}
	l[len(l)-1].Num = 1
	return l
}

const (
	custodyData = "\x83\x00\x01\x82\x01\x00"
	urgentData  = "\x83\x02\x00\x82\x01\x00"
)

// plainReportUp is what the chapter says of a report that goes up, sentence by sentence; so are the others below.
func plainReportUp(x api.Report) (api.Report, api.Errno) {
	if _, wrong := adm6.Report(x); wrong != api.OK {
		return api.Report{}, api.ErrRecord
	}
	if x.Bits/2%2 == 1 {
		return api.Report{}, api.ErrRecord
	}
	return withReport(x, func(x *api.Report) {
		for i := range x.Times {
			x.Times[i] *= 1000
		}
		x.Time *= 1000
	}), api.OK
}

func plainReportDown(x api.Report) (api.Report, api.Errno) {
	if _, wrong := adm7.Report(x); wrong != api.OK {
		return api.Report{}, api.ErrRecord7
	}
	for _, at := range append([]int{x.Time}, x.Times...) {
		if at%1000 != 0 {
			return api.Report{}, api.ErrRecord7
		}
	}
	return withReport(x, func(x *api.Report) {
		for i := range x.Times {
			x.Times[i] /= 1000
		}
		x.Time /= 1000
	}), api.OK
}

func plainUp(x api.Six) (api.Seven, api.Errno) {
	if !six.Right(x) {
		return api.Seven{}, api.ErrSix
	}
	flags, wrong := signs.Up(x.Flags)
	if wrong != api.OK {
		return api.Seven{}, wrong
	}
	c := api.Class{Priority: x.Flags / 128 % 4, Custody: x.Flags/8%2 == 1, Custodian: x.Custodian}
	l, wrong := ext.Up(x.Blocks, c)
	if wrong != api.OK {
		return api.Seven{}, wrong
	}
	if x.Flags/2%2 == 1 {
		if l, wrong = plainRecordUp(x, l); wrong != api.OK {
			return api.Seven{}, wrong
		}
	}
	return api.Seven{
		Flags: flags, Sum: 2, Dest: x.Dest, Source: x.Source, Report: x.Report,
		Time: x.Time * 1000, Seq: x.Seq, Life: x.Life * 1000, Off: x.Off, Total: x.Total, Blocks: l,
	}, api.OK
}

// plainRecordUp are a bundle's blocks gone up, with its record gone up, too.
func plainRecordUp(x api.Six, l []api.Block) ([]api.Block, api.Errno) {
	if x.Flags%2 == 1 {
		return nil, api.ErrPart
	}
	data := x.Blocks[len(x.Blocks)-1].Data
	if _, wrong := adm6.ReadSignal(data); wrong == api.OK {
		return nil, api.ErrCustody
	}
	report, wrong := adm6.ReadReport(data)
	if wrong != api.OK {
		return nil, api.ErrRecord
	}
	report, wrong = plainReportUp(report)
	if wrong != api.OK {
		return nil, api.ErrRecord
	}
	l[len(l)-1].Data, wrong = adm7.Report(report)
	return l, wrong
}

func plainDown(x api.Seven) (api.Six, api.Errno) {
	switch {
	case !seven.Right(x):
		return api.Six{}, api.ErrSeven
	case x.Sum != 2:
		return api.Six{}, api.ErrSum
	case x.Time%1000 != 0, x.Life%1000 != 0:
		return api.Six{}, api.ErrTime
	}
	l, c, wrong := ext.Down(x.Blocks)
	if wrong != api.OK {
		return api.Six{}, wrong
	}
	flags, wrong := signs.Down(x.Flags, c.Priority, c.Custody)
	if wrong != api.OK {
		return api.Six{}, wrong
	}
	if x.Flags/2%2 == 1 {
		if l, wrong = plainRecordDown(x, l); wrong != api.OK {
			return api.Six{}, wrong
		}
	}
	y := api.Six{
		Flags: flags, Dest: x.Dest, Source: x.Source, Report: x.Report, Custodian: c.Custodian,
		Time: x.Time / 1000, Seq: x.Seq, Life: x.Life / 1000, Off: x.Off, Total: x.Total, Blocks: l,
	}
	if !six.Right(y) {
		return api.Six{}, api.ErrSix
	}
	return y, api.OK
}

// plainRecordDown are a bundle's blocks gone down, with its record gone down, too.
func plainRecordDown(x api.Seven, l []api.Block) ([]api.Block, api.Errno) {
	if x.Flags%2 == 1 {
		return nil, api.ErrPart
	}
	data := x.Blocks[len(x.Blocks)-1].Data
	if _, wrong := adm7.ReadPdu(data); wrong == api.OK {
		return nil, api.ErrCustody
	}
	if _, wrong := adm7.ReadAcks(data); wrong == api.OK {
		return nil, api.ErrCustody
	}
	report, wrong := adm7.ReadReport(data)
	if wrong != api.OK {
		return nil, api.ErrRecord7
	}
	report, wrong = plainReportDown(report)
	if wrong != api.OK {
		return nil, api.ErrRecord7
	}
	l[len(l)-1].Data, wrong = adm6.Report(report)
	return l, wrong
}

func plainOver(side int, s string) (string, api.Errno) {
	switch side {
	case 6:
		x, wrong := six.Parse(s)
		if wrong != api.OK {
			return "", api.ErrSix
		}
		y, wrong := plainUp(x)
		if wrong != api.OK {
			return "", wrong
		}
		return seven.Encode(y)
	case 7:
		x, wrong := seven.Parse(s)
		if wrong != api.OK {
			return "", api.ErrSeven
		}
		y, wrong := plainDown(x)
		if wrong != api.OK {
			return "", wrong
		}
		return six.Encode(y)
	}
	return "", api.ErrArg
}

// bare are blocks in a list of their own, whose empty lists are nil: nil and empty lists are one.
func bare(l []api.Block) []api.Block {
	l = append([]api.Block{}, l...)
	for i := range l {
		l[i].Refs = append([]api.Eid{}, l[i].Refs...)
	}
	return l
}

func same6(a api.Six, b api.Six) bool {
	a.Blocks, b.Blocks = bare(a.Blocks), bare(b.Blocks)
	return reflect.DeepEqual(a, b)
}

func same7(a api.Seven, b api.Seven) bool {
	a.Blocks, b.Blocks = bare(a.Blocks), bare(b.Blocks)
	return reflect.DeepEqual(a, b)
}

func sameReport(a api.Report, b api.Report) bool {
	a.Times, b.Times = append([]int{}, a.Times...), append([]int{}, b.Times...)
	return reflect.DeepEqual(a, b)
}

// told keeps what is told of many blocks and long texts readable.
func told(x any) string {
	s := fmt.Sprintf("%+q", fmt.Sprintf("%+v", x))
	return s[:min(len(s), 900)]
}

func wantUp(t *testing.T, x api.Six, want api.Seven, wrong api.Errno) {
	t.Helper()
	if got, e := xlate.Up(x); !same7(got, want) || e != wrong {
		t.Errorf("Up(%s) = %s, %d; want %s, %d", told(x), told(got), e, told(want), wrong)
	}
}

func wantDown(t *testing.T, x api.Seven, want api.Six, wrong api.Errno) {
	t.Helper()
	if got, e := xlate.Down(x); !same6(got, want) || e != wrong {
		t.Errorf("Down(%s) = %s, %d; want %s, %d", told(x), told(got), e, told(want), wrong)
	}
}

func wantNoUp(t *testing.T, x api.Six, wrong api.Errno) {
	t.Helper()
	wantUp(t, x, api.Seven{}, wrong)
}

func wantNoDown(t *testing.T, x api.Seven, wrong api.Errno) {
	t.Helper()
	wantDown(t, x, api.Six{}, wrong)
}

func wantReportUp(t *testing.T, x api.Report, want api.Report, wrong api.Errno) {
	t.Helper()
	if got, e := xlate.ReportUp(x); !sameReport(got, want) || e != wrong {
		t.Errorf("ReportUp(%s) = %s, %d; want %s, %d", told(x), told(got), e, told(want), wrong)
	}
}

func wantReportDown(t *testing.T, x api.Report, want api.Report, wrong api.Errno) {
	t.Helper()
	if got, e := xlate.ReportDown(x); !sameReport(got, want) || e != wrong {
		t.Errorf("ReportDown(%s) = %s, %d; want %s, %d", told(x), told(got), e, told(want), wrong)
	}
}

func wantNoReportUp(t *testing.T, x api.Report) {
	t.Helper()
	wantReportUp(t, x, api.Report{}, api.ErrRecord)
}

func wantNoReportDown(t *testing.T, x api.Report) {
	t.Helper()
	wantReportDown(t, x, api.Report{}, api.ErrRecord7)
}

func wantOver(t *testing.T, side int, s string, want string, wrong api.Errno) {
	t.Helper()
	if got, e := xlate.Over(side, s); got != want || e != wrong {
		t.Errorf("Over(%d, %s) = %s, %d; want %s, %d", side, told(s), told(got), e, told(want), wrong)
	}
}

// wantBoth wants of two bundles that one goes to the other, there and back, and so do their bytes.
func wantBoth(t *testing.T, x api.Six, y api.Seven) {
	t.Helper()
	wantUp(t, x, y, api.OK)
	wantDown(t, y, x, api.OK)
	s, wrong6 := six.Encode(x)
	u, wrong7 := seven.Encode(y)
	if wrong6 != api.OK || wrong7 != api.OK {
		t.Errorf("no bytes: %s, %d; %s, %d", told(x), wrong6, told(y), wrong7)
	}
	wantOver(t, 6, s, u, api.OK)
	wantOver(t, 7, u, s, api.OK)
}

func wantBothReports(t *testing.T, x api.Report, y api.Report) {
	t.Helper()
	wantReportUp(t, x, y, api.OK)
	wantReportDown(t, y, x, api.OK)
}

// wantPlainUp and wantPlainDown want of any bundle, and of its bytes, what the chapter says, and that what goes over is right and comes back as it was.
func wantPlainUp(t *testing.T, x api.Six) api.Errno {
	t.Helper()
	want, wrong := plainUp(x)
	wantUp(t, x, want, wrong)
	if wrong != api.OK {
		if s, e := six.Encode(x); e == api.OK {
			wantOver(t, 6, s, "", wrong)
		}
		return wrong
	}
	wantBoth(t, x, want)
	return api.OK
}

func wantPlainDown(t *testing.T, x api.Seven) api.Errno {
	t.Helper()
	want, wrong := plainDown(x)
	wantDown(t, x, want, wrong)
	if wrong != api.OK {
		if s, e := seven.Encode(x); e == api.OK {
			wantOver(t, 7, s, "", wrong)
		}
		return wrong
	}
	wantBoth(t, want, x)
	return api.OK
}

func wantPlainReports(t *testing.T, x api.Report) (api.Errno, api.Errno) {
	t.Helper()
	want, wrong := plainReportUp(x)
	wantReportUp(t, x, want, wrong)
	if wrong == api.OK {
		wantReportDown(t, want, x, api.OK)
	}
	want, wrong7 := plainReportDown(x)
	wantReportDown(t, x, want, wrong7)
	if wrong7 == api.OK {
		wantReportUp(t, want, x, api.OK)
	}
	return wrong, wrong7
}

// far are numbers far from all that are right: whatever is cut off of them, or wraps round, may leave one that is.
func far() []int {
	l := []int{math.MinInt, math.MaxInt, math.MaxInt - 255, math.MaxInt / 1000, math.MinInt / 1000, math.MaxInt/1000 + 1}
	for shift := 8; shift < 63; shift++ {
		l = append(l, 1<<shift, -1<<shift, 125<<shift)
	}
	return l
}

// edges are numbers at the edges of what is right, and around them.
func edges() []int {
	l := []int{-1000, -1, 0, 1, 2, 999, 1000, 1001, 1500, 2000, 5000, 5001}
	for _, n := range []int{maxTime, maxNum, maxTime * 1000, maxNum * 1000} {
		l = append(l, n-1000, n-1, n, n+1, n+1000)
	}
	return append(l, far()...)
}

func unhex(s string) string {
	b, err := hex.DecodeString(strings.ReplaceAll(s, " ", ""))
	if err != nil {
		panic(err)
	}
	return string(b)
}

// summed are a list's bytes, of which the last five are a sum's, with that in them.
func summed(s string) string {
	sum := crc32.Checksum([]byte(s+"\x44\x00\x00\x00\x00"), crc32.MakeTable(crc32.Castagnoli))
	return s + string(binary.BigEndian.AppendUint32([]byte{0x44}, sum))
}

// P15.1, P15.2: what the chapter's table says, and the examples of the whole.
func TestExamples(t *testing.T) {
	wantBoth(t, six1(), seven1())
	wantBoth(t,
		with6(six1(), func(x *api.Six) { x.Flags |= api.Received }),
		with7(seven1(), func(x *api.Seven) { x.Flags = api.Timed | api.Received }))
	wantBoth(t,
		with6(six1(), func(x *api.Six) { x.Flags |= 2 * api.Priority }),
		with7(seven1(), func(x *api.Seven) { x.Blocks = classed(unhex("83 02 00 82 01 00"), x.Blocks...) }))
	wantNoDown(t, with7(seven1(), func(x *api.Seven) { x.Time = 5001 }), api.ErrTime)
	wantBoth(t, six2(), seven2())
}

// P15.2: bytes, written out.
func TestBytes(t *testing.T) {
	s := unhex("06 10 0c 02 01 01 01 00 00 00 00 05 00 09 00 01 08 02 68 69")
	u := "\x9f" + summed(unhex("89 07 00 02 82 02 82 02 01 82 02 82 01 01 82 01 00 82 19 13 88 00 19 23 28")) + unhex("85 01 01 00 00 42 68 69 ff")
	wantOver(t, 6, s, u, api.OK)
	wantOver(t, 7, u, s, api.OK)
	report := unhex("06 12 0c 02 01 01 01 00 00 00 00 05 00 09 00 01 08 11") + reportBytes6
	report7 := "\x9f" + summed(unhex("89 07 02 02 82 02 82 02 01 82 02 82 01 01 82 01 00 82 19 13 88 00 19 23 28")) + unhex("85 01 01 00 00 58 1d") + reportBytes7 + "\xff"
	wantOver(t, 6, report, report7, api.OK)
	wantOver(t, 7, report7, report, api.OK)
}

// P15.1: reports, written out.
func TestReports(t *testing.T) {
	wantBothReports(t, report6(), report7())
	wantBothReports(t,
		api.Report{Bits: 29, Times: []int{4, 0, 2, maxTime}, Reason: 255, Source: longest(), Time: maxTime, Seq: maxNum, Part: true, Off: 5, Len: maxNum - 5},
		api.Report{Bits: 29, Times: []int{4000, 0, 2000, maxTime * 1000}, Reason: 255, Source: longest(), Time: maxTime * 1000, Seq: maxNum, Part: true, Off: 5, Len: maxNum - 5})
	wantBothReports(t, api.Report{Bits: 1, Times: []int{0}}, api.Report{Bits: 1, Times: []int{0}})
	for _, x := range []api.Report{
		{}, {Bits: 1}, {Bits: 2, Times: []int{5}}, {Bits: 3, Times: []int{5, 6}}, {Bits: 31, Times: []int{1, 2, 3, 4, 5}}, {Bits: 1, Times: []int{-1}}, {Bits: 1, Times: []int{maxTime + 1}}, {Bits: 5, Times: []int{0, maxTime + 1}},
		{Bits: 1, Times: []int{0}, Time: maxTime + 1}, {Bits: 1, Times: []int{0}, Time: -1}, {Bits: 1, Times: []int{0}, Reason: 256}, {Bits: 1, Times: []int{0}, Source: dtn("", "")}, {Bits: 1, Times: []int{0}, Seq: -1}, {Bits: 1, Times: []int{0}, Len: 1}, {Bits: 1, Times: []int{0, 0}}, {Bits: 32, Times: []int{0}},
	} {
		wantNoReportUp(t, x)
	}
	for _, x := range []api.Report{
		{}, {Bits: 1}, {Bits: 2, Times: []int{5000}}, {Bits: 3, Times: []int{5000, 6000}}, {Bits: 1, Times: []int{-1000}}, {Bits: 1, Times: []int{1}}, {Bits: 1, Times: []int{999}}, {Bits: 1, Times: []int{maxNum}}, {Bits: 1, Times: []int{maxTime*1000 + 1000}},
		{Bits: 5, Times: []int{0, 1}}, {Bits: 5, Times: []int{1, 0}}, {Bits: 29, Times: []int{1000, 2000, 3000, 4001}}, {Bits: 1, Times: []int{0}, Time: 1}, {Bits: 1, Times: []int{0}, Time: -1000}, {Bits: 1, Times: []int{0}, Time: maxTime*1000 + 1000},
		{Bits: 1, Times: []int{0}, Reason: 256}, {Bits: 1, Times: []int{0}, Source: ipn(0, 1)}, {Bits: 1, Times: []int{0}, Seq: maxNum + 1}, {Bits: 1, Times: []int{0}, Off: 1}, {Bits: 1, Times: []int{0, 0}}, {Bits: 33, Times: []int{0}},
	} {
		wantNoReportDown(t, x)
	}
}

// P15.1: all bits, with each count of times.
func TestReportBits(t *testing.T) {
	for bits := -70; bits <= 70; bits++ {
		for count := range 7 {
			wantPlainReports(t, api.Report{Bits: bits, Times: []int{1000, 2000, 3000, 4000, 5000, 6000}[:count], Time: 7000})
			wantPlainReports(t, api.Report{Bits: bits, Times: []int{1, 2, 3, 4, 5, 6}[:count], Time: 7})
		}
	}
	for _, n := range far() {
		wantPlainReports(t, api.Report{Bits: n + 1, Times: []int{1000}})
	}
}

// P15.1: each number of a report at all edges.
func TestReportNumbers(t *testing.T) {
	base := api.Report{Bits: 29, Times: []int{1000, 2000, 3000, 4000}, Reason: 1, Source: ipn(1, 1), Time: 7000, Seq: 3, Part: true, Off: 5, Len: 6}
	for _, n := range edges() {
		for i := range base.Times {
			wantPlainReports(t, withReport(base, func(x *api.Report) { x.Times[i] = n }))
		}
		for _, change := range []func(x *api.Report){
			func(x *api.Report) { x.Time = n }, func(x *api.Report) { x.Reason = n }, func(x *api.Report) { x.Seq = n }, func(x *api.Report) { x.Off = n }, func(x *api.Report) { x.Len = n }, func(x *api.Report) { x.Part, x.Off, x.Len = false, n, 0 }, func(x *api.Report) { x.Part, x.Off, x.Len = false, 0, n },
		} {
			wantPlainReports(t, withReport(base, change))
		}
	}
	for n := range 3000 {
		wantPlainReports(t, withReport(base, func(x *api.Report) { x.Time = n }))
		wantPlainReports(t, withReport(base, func(x *api.Report) { x.Times[n%4] = n }))
	}
	for _, e := range append(names(), dtn("", ""), dtn("A", ""), ipn(0, 0), api.Eid{A: 1}) {
		wantPlainReports(t, withReport(base, func(x *api.Report) { x.Source = e }))
	}
}

// P15.1: what stays as it is, at its edges, and times.
func TestNumbers(t *testing.T) {
	for _, n := range edges() {
		for _, change := range []func(x *api.Six){
			func(x *api.Six) { x.Time = n }, func(x *api.Six) { x.Life = n }, func(x *api.Six) { x.Seq = n }, func(x *api.Six) { x.Off = n }, func(x *api.Six) { x.Total = n }, func(x *api.Six) { x.Flags &^= 1; x.Off, x.Total = n, 0 }, func(x *api.Six) { x.Flags &^= 1; x.Off, x.Total = 0, n },
		} {
			wantPlainUp(t, with6(six2(), change))
		}
		for _, change := range []func(x *api.Seven){
			func(x *api.Seven) { x.Time = n }, func(x *api.Seven) { x.Life = n }, func(x *api.Seven) { x.Seq = n }, func(x *api.Seven) { x.Off = n }, func(x *api.Seven) { x.Total = n }, func(x *api.Seven) { x.Sum = n },
		} {
			wantPlainDown(t, with7(seven2(), change))
		}
	}
	for n := range 3000 {
		wantPlainDown(t, with7(seven1(), func(x *api.Seven) { x.Time = n }))
		wantPlainDown(t, with7(seven1(), func(x *api.Seven) { x.Life = n }))
	}
}

// P15.1: all names, at each place.
func TestNames(t *testing.T) {
	wrong := []api.Eid{dtn("", ""), dtn("A", ""), ipn(0, 0), {A: 1}, {Scheme: 3}}
	for _, e := range append(names(), wrong...) {
		for _, change := range []func(x *api.Six){
			func(x *api.Six) { x.Dest = e }, func(x *api.Six) { x.Source = e }, func(x *api.Six) { x.Report = e }, func(x *api.Six) { x.Custodian = e },
		} {
			wantPlainUp(t, with6(six2(), change))
			wantPlainUp(t, with6(six1(), change))
		}
		for _, change := range []func(x *api.Seven){
			func(x *api.Seven) { x.Dest = e }, func(x *api.Seven) { x.Source = e }, func(x *api.Seven) { x.Report = e },
		} {
			wantPlainDown(t, with7(seven2(), change))
			wantPlainDown(t, with7(seven1(), change))
		}
	}
	for _, e := range names() {
		x := with6(six2(), func(x *api.Six) { x.Dest, x.Source, x.Report, x.Custodian = e, ipn(1, 1), dtn("b", "c"), ipn(4, 4) })
		if y, wrong := xlate.Up(x); y.Dest != e || y.Source != ipn(1, 1) || y.Report != dtn("b", "c") || wrong != api.OK {
			t.Error(y, wrong)
		}
	}
}

// flagSums are all sums of flags.
func flagSums(flags ...int) []int {
	sums := []int{0}
	for _, f := range flags {
		for _, s := range sums {
			sums = append(sums, s+f)
		}
	}
	return sums
}

// P15.1: all flags of bundles of version 6, with a source and without.
func TestFlagsUp(t *testing.T) {
	t.Parallel()
	for _, f := range flagSums(1, 2, 4, 8, 16, 32, 64, 128, 128, 16384, 32768, 65536, 131072, 262144) {
		for _, source := range []api.Eid{ipn(1, 1), none()} {
			for _, load := range []string{"hi", reportBytes6} {
				x := six1()
				x.Flags, x.Source, x.Blocks = f, source, blocks(load6(load))
				if f%2 == 1 {
					x.Total = 40
				}
				want, wrong := plainUp(x)
				wantUp(t, x, want, wrong)
				if wrong == api.OK {
					wantDown(t, want, x, api.OK)
				}
			}
		}
	}
}

// P15.1: all flags of bundles of version 7, with all classes, with a source and without.
func TestFlagsDown(t *testing.T) {
	t.Parallel()
	for _, f := range flagSums(1, 2, 4, 8, 16, 32, 64, 16384, 32768, 65536, 131072, 262144) {
		for _, source := range []api.Eid{ipn(1, 1), none()} {
			for _, data := range []string{"", urgentData, custodyData, "\x83\x02\x01\x82\x02\x82\x03\x00"} {
				x := seven1()
				x.Flags, x.Source, x.Blocks = f, source, blocks(load7(reportBytes7))
				if f%2 == 1 {
					x.Total = 40
				}
				if data != "" {
					x.Blocks = classed(data, x.Blocks...)
				}
				want, wrong := plainDown(x)
				wantDown(t, x, want, wrong)
				if wrong == api.OK {
					wantUp(t, want, x, api.OK)
				}
			}
		}
	}
	for _, n := range far() {
		wantNoUp(t, with6(six1(), func(x *api.Six) { x.Flags |= n &^ 0x7ffff; x.Flags++ }), api.ErrSix)
		wantNoDown(t, with7(seven1(), func(x *api.Seven) { x.Flags = n - 1; x.Flags |= 8 }), api.ErrSeven)
	}
}

// P15.1: each error of going up alone.
func TestUpErrors(t *testing.T) {
	for i, c := range []struct {
		wrong  api.Errno
		change func(x *api.Six)
	}{
		{api.ErrSix, func(x *api.Six) { x.Flags |= 64 }},
		{api.ErrSix, func(x *api.Six) { x.Blocks = nil }},
		{api.ErrSix, func(x *api.Six) { x.Time = maxTime + 1 }},
		{api.ErrSix, func(x *api.Six) { x.Life = -1 }},
		{api.ErrSix, func(x *api.Six) { x.Custodian = ipn(3, 0) }},
		{api.ErrSix, func(x *api.Six) { x.Blocks[0].Num = 1 }},
		{api.ErrSix, func(x *api.Six) { x.Blocks[0].Sum = 1 }},
		{api.ErrSix, func(x *api.Six) { x.Blocks[0].Flags = 0 }},
		{api.ErrSix, func(x *api.Six) { x.Blocks[0].Data = strings.Repeat("a", 601) }},
		{api.ErrAccepted, func(x *api.Six) { x.Flags |= api.Accepted }},
		{api.ErrSingle, func(x *api.Six) { x.Flags = 0 }},
		{api.ErrSingle, func(x *api.Six) { x.Flags = api.Received | api.Custody }},
		{api.ErrPassed, func(x *api.Six) { x.Blocks[0].Flags |= api.Passed }},
		{api.ErrNamed, func(x *api.Six) {
			x.Blocks = blocks(api.Block{Type: 5, Flags: api.Named, Refs: []api.Eid{ipn(1, 1)}}, load6("hi"))
		}},
		{api.ErrType, func(x *api.Six) { x.Blocks = blocks(block6(6, 0, ""), load6("hi")) }},
		{api.ErrType, func(x *api.Six) { x.Blocks = blocks(block6(7, 0, ""), load6("hi")) }},
		{api.ErrType, func(x *api.Six) { x.Blocks = blocks(block6(10, 0, ""), load6("hi")) }},
		{api.ErrType, func(x *api.Six) { x.Blocks = blocks(block6(192, 0, urgentData), load6("hi")) }},
		{api.ErrTwice, func(x *api.Six) { x.Blocks = blocks(block6(207, 0, ""), block6(207, 0, ""), load6("hi")) }},
		{api.ErrPart, func(x *api.Six) { x.Flags |= api.Admin | api.Fragment; x.Total = 2 }},
		{api.ErrRecord, func(x *api.Six) { x.Flags |= api.Admin }},
		{api.ErrRecord, func(x *api.Six) { x.Flags |= api.Admin; x.Blocks[0].Data = "" }},
		{api.ErrRecord, func(x *api.Six) { x.Flags |= api.Admin; x.Blocks[0].Data = keptBytes6 }},
		{api.ErrRecord, func(x *api.Six) { x.Flags |= api.Admin; x.Blocks[0].Data = reportBytes7 }},
		{api.ErrRecord, func(x *api.Six) { x.Flags |= api.Admin; x.Blocks[0].Data = pduBytes }},
		{api.ErrRecord, func(x *api.Six) { x.Flags |= api.Admin; x.Blocks[0].Data = acksBytes }},
		{api.ErrRecord, func(x *api.Six) { x.Flags |= api.Admin; x.Blocks[0].Data = reportBytes6 + "\x00" }},
		{api.ErrCustody, func(x *api.Six) { x.Flags |= api.Admin; x.Blocks[0].Data = signalBytes }},
	} {
		x := with6(six1(), c.change)
		wantNoUp(t, x, c.wrong)
		if s, e := six.Encode(x); e == api.OK {
			wantOver(t, 6, s, "", c.wrong)
		} else if c.wrong != api.ErrSix {
			t.Error(i, e)
		}
	}
}

// P15.1: each error of going down alone.
func TestDownErrors(t *testing.T) {
	for i, c := range []struct {
		wrong  api.Errno
		change func(x *api.Seven)
	}{
		{api.ErrSeven, func(x *api.Seven) { x.Flags = 8 }},
		{api.ErrSeven, func(x *api.Seven) { x.Flags = api.Single }},
		{api.ErrSeven, func(x *api.Seven) { x.Blocks = nil }},
		{api.ErrSeven, func(x *api.Seven) { x.Sum = 3 }},
		{api.ErrSeven, func(x *api.Seven) { x.Sum = -1 }},
		{api.ErrSeven, func(x *api.Seven) { x.Time = -1000 }},
		{api.ErrSeven, func(x *api.Seven) { x.Life = maxTime*1000 + 1000 }},
		{api.ErrSeven, func(x *api.Seven) { x.Source = none() }},
		{api.ErrSeven, func(x *api.Seven) { x.Blocks[0].Num = 2 }},
		{api.ErrSeven, func(x *api.Seven) { x.Blocks[0].Flags = api.Last }},
		{api.ErrSeven, func(x *api.Seven) { x.Blocks[0].Refs = []api.Eid{none()} }},
		{api.ErrSum, func(x *api.Seven) { x.Sum = 0 }},
		{api.ErrSum, func(x *api.Seven) { x.Sum = 1 }},
		{api.ErrTime, func(x *api.Seven) { x.Time = 1 }},
		{api.ErrTime, func(x *api.Seven) { x.Life = 8999 }},
		{api.ErrTime, func(x *api.Seven) { x.Time = maxNum }},
		{api.ErrSum, func(x *api.Seven) { x.Blocks[0].Sum = 2 }},
		{api.ErrSum, func(x *api.Seven) {
			x.Blocks = blocks(block7(5, 2, 0, ""), load7("hi"))
			x.Blocks[0].Sum = 1
		}},
		{api.ErrOrder, func(x *api.Seven) { x.Blocks = blocks(block7(5, 3, 0, ""), load7("hi")) }},
		{api.ErrOrder, func(x *api.Seven) { x.Blocks = blocks(block7(5, 3, 0, ""), block7(5, 2, 0, ""), load7("hi")) }},
		{api.ErrClass, func(x *api.Seven) { x.Blocks = classed("", load7("hi")) }},
		{api.ErrClass, func(x *api.Seven) { x.Blocks = classed("\x83\x00\x00\x82\x01\x00", load7("hi")) }},
		{api.ErrClass, func(x *api.Seven) { x.Blocks = classed(urgentData, load7("hi")); x.Blocks[0].Flags = 1 }},
		{api.ErrType, func(x *api.Seven) { x.Blocks = blocks(block7(206, 2, 0, ""), load7("hi")) }},
		{api.ErrType, func(x *api.Seven) { x.Blocks = blocks(block7(207, 2, 0, ""), load7("hi")) }},
		{api.ErrType, func(x *api.Seven) { x.Blocks = blocks(block7(210, 2, 0, ""), load7("hi")) }},
		{api.ErrType, func(x *api.Seven) { x.Blocks = blocks(block7(5, 2, 0, ""), block7(192, 3, 0, urgentData), load7("hi")) }},
		{api.ErrTimed, func(x *api.Seven) { x.Flags = api.Timed }},
		{api.ErrTimed, func(x *api.Seven) { x.Flags = api.Deleted }},
		{api.ErrTimed, func(x *api.Seven) { x.Flags = api.Admin | api.Timed; x.Blocks[0].Data = reportBytes7 }},
		{api.ErrPart, func(x *api.Seven) { x.Flags = api.Admin | api.Fragment; x.Total = 2 }},
		{api.ErrRecord7, func(x *api.Seven) { x.Flags = api.Admin }},
		{api.ErrRecord7, func(x *api.Seven) { x.Flags = api.Admin; x.Blocks[0].Data = "" }},
		{api.ErrRecord7, func(x *api.Seven) { x.Flags = api.Admin; x.Blocks[0].Data = unevenBytes7 }},
		{api.ErrRecord7, func(x *api.Seven) { x.Flags = api.Admin; x.Blocks[0].Data = reportBytes6 }},
		{api.ErrRecord7, func(x *api.Seven) { x.Flags = api.Admin; x.Blocks[0].Data = signalBytes }},
		{api.ErrRecord7, func(x *api.Seven) { x.Flags = api.Admin; x.Blocks[0].Data = reportBytes7 + "\x00" }},
		{api.ErrCustody, func(x *api.Seven) { x.Flags = api.Admin; x.Blocks[0].Data = pduBytes }},
		{api.ErrCustody, func(x *api.Seven) { x.Flags = api.Admin; x.Blocks[0].Data = acksBytes }},
		{api.ErrSix, func(x *api.Seven) { x.Flags = api.Admin; x.Blocks = classed(custodyData, load7(reportBytes7)) }},
		{api.ErrSix, func(x *api.Seven) {
			x.Flags, x.Source, x.Blocks = api.Whole, none(), classed(custodyData, x.Blocks...)
		}},
	} {
		x := with7(seven1(), c.change)
		wantNoDown(t, x, c.wrong)
		if s, e := seven.Encode(x); e == api.OK {
			wantOver(t, 7, s, "", c.wrong)
		} else if c.wrong != api.ErrSeven {
			t.Error(i, e)
		}
	}
}

// P15.1, R1: of several errors of going up the first one: from one to the next one of them is mended.
func TestUpWhichError(t *testing.T) {
	x := api.Six{Flags: api.Accepted | api.Custody | api.Fragment | api.Admin, Source: ipn(1, 1)}
	wantNoUp(t, x, api.ErrSix)
	x.Flags = api.Accepted | api.Custody
	for range 7 {
		x.Blocks = append(x.Blocks, block6(6, api.Passed, ""))
	}
	x.Blocks = append(x.Blocks, load6(""))
	wantNoUp(t, x, api.ErrAccepted)
	x.Flags = api.Custody
	wantNoUp(t, x, api.ErrSingle)
	x.Flags |= api.Single
	wantNoUp(t, x, api.ErrBlocks)
	x.Blocks = x.Blocks[1:]
	wantNoUp(t, x, api.ErrPassed)
	x = admin6("hi")
	x.Flags |= api.Fragment
	x.Total = 2
	x.Blocks[0] = block6(6, api.Passed, "")
	wantNoUp(t, x, api.ErrPassed)
	x.Blocks[0] = block6(6, 0, "")
	wantNoUp(t, x, api.ErrType)
	x.Blocks = blocks(block6(210, 0, ""), block6(210, 0, ""), load6("hi"))
	wantNoUp(t, x, api.ErrTwice)
	x.Blocks = x.Blocks[1:]
	wantNoUp(t, x, api.ErrPart)
	for _, load := range []string{signalBytes, reportBytes6, keptBytes6, "hi"} {
		x = admin6(load)
		x.Flags |= api.Fragment
		x.Total = 100
		wantNoUp(t, x, api.ErrPart)
	}
}

// P15.1, R1: of several errors of going down the first one: from one to the next one of them is mended.
func TestDownWhichError(t *testing.T) {
	x := admin7("hi")
	x.Flags, x.Total = api.Admin|api.Fragment|api.Timed, 2
	x.Sum, x.Time, x.Life = 1, 5001, 1
	x.Blocks = blocks(block7(192, 7, 1, ""), block7(206, 6, 8, ""), load7("hi"))
	x.Blocks[0].Sum = 1
	wantNoDown(t, x, api.ErrSeven)
	x.Blocks[1].Flags = 0
	wantNoDown(t, x, api.ErrSum)
	x.Sum = 2
	wantNoDown(t, x, api.ErrTime)
	x.Time = 5000
	wantNoDown(t, x, api.ErrTime)
	x.Life = 0
	wantNoDown(t, x, api.ErrOrder)
	x.Blocks[0].Num = 2
	wantNoDown(t, x, api.ErrSum)
	x.Blocks[0].Sum = 0
	wantNoDown(t, x, api.ErrClass)
	x.Blocks[0].Flags, x.Blocks[0].Data = 0, custodyData
	wantNoDown(t, x, api.ErrOrder)
	x.Blocks[1].Num = 3
	wantNoDown(t, x, api.ErrType)
	x.Blocks[1].Type = 6
	wantNoDown(t, x, api.ErrTimed)
	x.Flags &^= api.Timed
	wantNoDown(t, x, api.ErrPart)
	for _, load := range []string{pduBytes, acksBytes, reportBytes7, unevenBytes7} {
		x.Blocks[2].Data, x.Total = load, 100
		wantNoDown(t, x, api.ErrPart)
	}
	x.Flags, x.Total = api.Admin, 0
	// What custody leaves not right comes last.
	for load, wrong := range map[string]api.Errno{pduBytes: api.ErrCustody, acksBytes: api.ErrCustody, unevenBytes7: api.ErrRecord7, "hi": api.ErrRecord7} {
		x.Blocks[2].Data = load
		wantNoDown(t, x, wrong)
	}
	x.Blocks[2].Data = reportBytes7
	wantNoDown(t, x, api.ErrSix)
	x.Blocks[0].Data = urgentData
	wantDown(t, x, api.Six{
		Flags: api.Admin | api.Single | 2*api.Priority, Dest: ipn(2, 1), Source: ipn(1, 1), Time: 5,
		Blocks: blocks(block6(206, 0, ""), load6(reportBytes6)),
	}, api.OK)
}

// P15.1: how many blocks go, with a class and without.
func TestHowManyBlocks(t *testing.T) {
	for count := range 12 {
		for flags := range 3 {
			for _, custody := range []int{0, api.Custody} {
				x := six1()
				x.Flags |= flags*api.Priority + custody
				x.Blocks = nil
				for i := range count {
					x.Blocks = append(x.Blocks, block6(20+i, i%8, string(rune('a'+i))))
				}
				x.Blocks = append(x.Blocks, load6("hi"))
				wantPlainUp(t, x)
				wrong := api.OK
				switch {
				case count > 7:
					wrong = api.ErrSix
				case count > 6 && flags*128+custody != 0:
					wrong = api.ErrBlocks
				}
				if _, e := xlate.Up(x); e != wrong {
					t.Error(count, flags, custody, e)
				}
			}
		}
	}
	for count := range 12 {
		for _, data := range []string{"", urgentData, custodyData} {
			var l []api.Block
			for i := range count {
				l = append(l, block7(20+i, 2+i, i%8, string(rune('a'+i))))
			}
			l = append(l, load7("hi"))
			if data != "" {
				l = classed(data, l...)
			}
			wantPlainDown(t, with7(seven1(), func(x *api.Seven) { x.Blocks = l }))
		}
	}
}

// P15.1: all types of blocks, and all flags of each, at each place.
func TestBlocks(t *testing.T) {
	t.Parallel()
	for n := -2; n <= 260; n++ {
		for place := range 6 {
			wantPlainUp(t, with6(six2(), func(x *api.Six) { x.Blocks[place].Type = n }))
			wantPlainUp(t, with6(six2(), func(x *api.Six) { x.Blocks[place].Flags = n }))
		}
		for place := range 7 {
			wantPlainDown(t, with7(seven2(), func(x *api.Seven) { x.Blocks[place].Type = n }))
			wantPlainDown(t, with7(seven2(), func(x *api.Seven) { x.Blocks[place].Flags = n }))
			wantPlainDown(t, with7(seven2(), func(x *api.Seven) { x.Blocks[place].Num = n }))
			wantPlainDown(t, with7(seven2(), func(x *api.Seven) { x.Blocks[place].Sum = n }))
		}
	}
}

// reports6 are right in version 6, those among them with Kept don't go up.
func reports6() []api.Report {
	l := []api.Report{
		report6(),
		{Bits: 1, Times: []int{0}},
		{Bits: 4, Times: []int{300}, Reason: 255, Part: true, Off: 2, Len: 128},
		{Bits: 29, Times: []int{4, 3, 2, 1}, Reason: 24, Source: ipn(300, 65536), Time: 23, Seq: 24},
		{Bits: 29, Times: slices.Repeat([]int{maxTime}, 4), Reason: 255, Source: longest(), Time: maxTime, Seq: maxNum, Part: true, Off: 5, Len: maxNum - 5},
		{Bits: 16, Times: []int{127}, Source: dtn("earth", ""), Time: 1, Part: true, Len: maxNum},
	}
	for bits := 1; bits < 32; bits++ {
		x := api.Report{Bits: bits, Source: dtn("a", "b"), Time: bits}
		for left := bits; left > 0; left &= left - 1 {
			x.Times = append(x.Times, left)
		}
		l = append(l, x)
	}
	return l
}

// P15.1: all kinds of records as payloads of both versions, of bundles that tell of others and of such as don't.
func TestRecords(t *testing.T) {
	t.Parallel()
	loads := []string{"", "hi", signalBytes, pduBytes, acksBytes, reportBytes6, reportBytes7, keptBytes6, unevenBytes7, strings.Repeat("\x10", 600)}
	for _, x := range reports6() {
		s, wrong := adm6.Report(x)
		if wrong != api.OK {
			t.Error(x, wrong)
		}
		loads = append(loads, s)
		if s, wrong = adm7.Report(x); wrong == api.OK {
			loads = append(loads, s)
		}
		if y, wrong := xlate.ReportUp(x); wrong == api.OK {
			s, _ = adm7.Report(y)
			loads = append(loads, s)
		}
	}
	for _, good := range []bool{false, true} {
		for _, e := range names() {
			s, _ := adm6.Signal(api.Signal{Good: good, Reason: 3, At: 5, Source: e, Time: 6})
			loads = append(loads, s)
		}
	}
	for _, size := range []int{1, 23, 24, 255, 256, 560} {
		s, _ := adm7.Pdu(api.Pdu{Id: 1, Due: 5, Data: strings.Repeat("a", size)})
		loads = append(loads, s)
	}
	for _, s := range loads {
		wantPlainUp(t, admin6(s))
		wantPlainUp(t, with6(admin6(s), func(x *api.Six) { x.Flags ^= api.Admin }))
		wantPlainDown(t, admin7(s))
		wantPlainDown(t, with7(admin7(s), func(x *api.Seven) { x.Flags ^= api.Admin }))
		// As no record's payload, whatever stands there stays.
		y, wrong := xlate.Up(with6(admin6(s), func(x *api.Six) { x.Flags ^= api.Admin }))
		if wrong != api.OK || seven.Load(y) != s {
			t.Error(told(s), wrong)
		}
	}
}

// P15.1: a record in the payload, of which a byte is another one, or is missing, or is one too many.
func TestRecordsChanged(t *testing.T) {
	t.Parallel()
	for _, s := range []string{reportBytes6, keptBytes6, signalBytes} {
		for _, s := range changedBytes(s) {
			want, wrong := plainUp(admin6(s))
			wantUp(t, admin6(s), want, wrong)
		}
	}
	for _, s := range []string{reportBytes7, unevenBytes7, pduBytes, acksBytes} {
		for _, s := range changedBytes(s) {
			want, wrong := plainDown(admin7(s))
			wantDown(t, admin7(s), want, wrong)
		}
	}
}

// P15.1: the record alone is another one: what stands ahead of it stays.
func TestRecordWhere(t *testing.T) {
	l6 := blocks(block6(206, 0, reportBytes6), block6(5, 0, reportBytes6), load6(reportBytes6))
	l7 := blocks(block7(6, 2, 0, reportBytes6), block7(5, 3, 0, reportBytes6), load7(reportBytes7))
	x := with6(admin6(""), func(x *api.Six) { x.Blocks = l6 })
	y := with7(admin7(""), func(x *api.Seven) { x.Blocks = l7 })
	wantBoth(t, x, y)
	x.Flags |= api.Priority
	y.Blocks = classed("\x83\x01\x00\x82\x01\x00", y.Blocks...)
	wantBoth(t, x, y)
}

// P15.2: sides, and bytes that are of none or of the other one.
func TestOver(t *testing.T) {
	s6, _ := six.Encode(six2())
	s7, _ := seven.Encode(seven2())
	wantOver(t, 6, s6, s7, api.OK)
	wantOver(t, 7, s7, s6, api.OK)
	for side := -300; side <= 300; side++ {
		if side != 6 && side != 7 {
			for _, s := range []string{"", s6, s7} {
				wantOver(t, side, s, "", api.ErrArg)
			}
		}
	}
	for _, n := range far() {
		for _, side := range []int{n, n + 6, n + 7} {
			wantOver(t, side, s6, "", api.ErrArg)
			wantOver(t, side, s7, "", api.ErrArg)
		}
	}
	for _, s := range []string{"", "\x06", "\x07", "\x9f", "\x9f\xff", s6[1:], s7[1:], s6[:len(s6)-1], s7[:len(s7)-1], s6 + "\x00", s7 + "\x00", s6 + s6, s7 + s7} {
		wantOver(t, 6, s, "", api.ErrSix)
		wantOver(t, 7, s, "", api.ErrSeven)
	}
	wantOver(t, 6, s7, "", api.ErrSix)
	wantOver(t, 7, s6, "", api.ErrSeven)
}

// changedBytes are a text's, of which one is another one, or is missing, or behind which all or ahead of which all is missing.
func changedBytes(s string) []string {
	var l []string
	others := []byte{0, 1, 2, 3, 4, 8, 9, 16, 24, 32, 48, 64, 128, 255}
	for i := range len(s) {
		l = append(l, s[:i], s[i:], s[:i]+s[i+1:])
		for _, b := range others {
			l = append(l, s[:i]+string([]byte{b})+s[i+1:], s[:i]+string([]byte{s[i] ^ b})+s[i+1:], s[:i]+string([]byte{b})+s[i:])
		}
	}
	return l
}

// P15.2: whatever byte is put into a bundle's bytes, taken out, or another one.
func TestOverChanged(t *testing.T) {
	t.Parallel()
	for _, x := range []api.Six{six1(), six2(), admin6(reportBytes6)} {
		s, _ := six.Encode(x)
		u, _ := xlate.Over(6, s)
		for _, other := range changedBytes(s) {
			want, wrong := plainOver(6, other)
			wantOver(t, 6, other, want, wrong)
		}
		for _, other := range changedBytes(u) {
			want, wrong := plainOver(7, other)
			wantOver(t, 7, other, want, wrong)
		}
	}
}

func pick[T any](r *rand.Rand, l ...T) T { return l[r.Intn(len(l))] }

func seldom(r *rand.Rand, change func()) {
	if r.Intn(40) == 0 {
		change()
	}
}

// randomReport often goes up.
func randomReport(r *rand.Rand) api.Report {
	x := api.Report{Bits: pick(r, 1, 4, 5, 8, 9, 12, 13, 16, 17, 29), Reason: r.Intn(256), Source: pick(r, names()...), Time: r.Intn(1000), Seq: r.Intn(1000)}
	seldom(r, func() { x.Bits = r.Intn(34) - 1 })
	for left := x.Bits & 31; left > 0; left &= left - 1 {
		x.Times = append(x.Times, r.Intn(1000))
	}
	if r.Intn(3) == 0 {
		x.Part, x.Off, x.Len = true, r.Intn(1000), r.Intn(1000)
	}
	seldom(r, func() { x.Time = pick(r, edges()...) })
	seldom(r, func() { x.Off = 1 })
	seldom(r, func() { x.Times = append(x.Times, 0) })
	if len(x.Times) > 0 {
		seldom(r, func() { x.Times[r.Intn(len(x.Times))] = pick(r, edges()...) })
	}
	return x
}

// randomSix often goes up.
func randomSix(r *rand.Rand) api.Six {
	x := api.Six{Flags: api.Single, Dest: pick(r, names()...), Source: pick(r, names()[1:]...), Report: pick(r, names()...), Time: r.Intn(100000), Seq: r.Intn(100000), Life: r.Intn(100000)}
	for _, f := range []int{4, 8, 32, 128, 128, 16384, 65536, 131072, 262144} {
		x.Flags += f * r.Intn(2)
	}
	load := pick(r, "", "a", "hi", reportBytes6)
	if r.Intn(3) == 0 {
		x.Flags = api.Admin | api.Single | x.Flags&(256+4)
		load, _ = adm6.Report(randomReport(r))
		seldom(r, func() { load = pick(r, "hi", signalBytes, signalBytes, reportBytes7) })
		seldom(r, func() { x.Flags |= pick(r, 1, 8, 32, 16384) })
	}
	seldom(r, func() { x.Source = none() })
	if x.Flags&8 != 0 {
		x.Custodian = pick(r, names()...)
	}
	if r.Intn(5) == 0 {
		x.Flags = x.Flags&^4 | 1
		x.Off, x.Total = r.Intn(50), 100+r.Intn(100)
	}
	seldom(r, func() { x.Flags ^= 1 << r.Intn(20) })
	seldom(r, func() { x.Flags ^= pick(r, 16, 32768) })
	seldom(r, func() { x.Time = pick(r, edges()...) })
	for range r.Intn(7) {
		b := block6(pick(r, 2+r.Intn(254), 206, 207, 210), r.Intn(32)&^8, pick(r, "", "b", urgentData))
		seldom(r, func() { b.Flags |= 32 })
		seldom(r, func() { b.Flags, b.Refs = b.Flags|64, []api.Eid{pick(r, names()...)} })
		x.Blocks = append(x.Blocks, b)
	}
	x.Blocks = append(x.Blocks, load6(load))
	return x
}

// randomSeven often goes down.
func randomSeven(r *rand.Rand) api.Seven {
	x := api.Seven{Sum: 2, Dest: pick(r, names()...), Source: pick(r, names()[1:]...), Report: pick(r, names()...), Time: r.Intn(100000) * 1000, Seq: r.Intn(100000), Life: r.Intn(100000) * 1000}
	for _, f := range []int{4, 32, 16384, 65536, 131072, 262144} {
		x.Flags += f * r.Intn(2)
	}
	if x.Flags > 64 {
		x.Flags += 64
	}
	load := pick(r, "", "a", "hi", reportBytes7)
	if r.Intn(3) == 0 {
		x.Flags = api.Admin | x.Flags&4
		report := randomReport(r)
		if r.Intn(20) > 0 {
			report, _ = xlate.ReportUp(report)
		}
		load, _ = adm7.Report(report)
		seldom(r, func() { load = pick(r, "hi", pduBytes, acksBytes, unevenBytes7, reportBytes6) })
	}
	seldom(r, func() { x.Source, x.Flags = none(), 4 })
	if r.Intn(5) == 0 {
		x.Flags = x.Flags&^4 | 1
		x.Off, x.Total = r.Intn(50), 100+r.Intn(100)
	}
	seldom(r, func() { x.Flags ^= 1 << r.Intn(20) })
	seldom(r, func() { x.Flags ^= 64 })
	seldom(r, func() { x.Sum = r.Intn(4) })
	seldom(r, func() { x.Time = pick(r, edges()...) })
	seldom(r, func() { x.Life++ })
	for i := range r.Intn(5) {
		x.Blocks = append(x.Blocks, block7(pick(r, 2+r.Intn(190), 6, 7, 10), 2+i, r.Intn(32)&^8, pick(r, "", "b", urgentData)))
	}
	x.Blocks = append(x.Blocks, load7(load))
	if r.Intn(3) == 0 {
		data, _ := ext.Data(api.Class{Priority: r.Intn(3), Custody: true, Custodian: pick(r, names()...)})
		x.Blocks = classed(pick(r, urgentData, data), x.Blocks...)
	}
	b := &x.Blocks[r.Intn(len(x.Blocks))]
	seldom(r, func() { b.Num += r.Intn(3) })
	seldom(r, func() { b.Sum = r.Intn(3) })
	seldom(r, func() { b.Type = pick(r, 206, 207, 210, 192, 2+r.Intn(254)) })
	seldom(r, func() { b.Data += "\x00" })
	return x
}

func wantTold(t *testing.T, count map[api.Errno]int, least int, errors ...api.Errno) {
	t.Helper()
	for _, e := range errors {
		if count[e] < least {
			t.Error("seldom told", e, count[e])
		}
	}
}

// P15.1, P15.2, P15.3: any bundles that go up, and such as do not.
func TestRandomUp(t *testing.T) {
	t.Parallel()
	r := rand.New(rand.NewSource(15))
	count := map[api.Errno]int{}
	for range 20000 {
		count[wantPlainUp(t, randomSix(r))]++
	}
	wantTold(t, count, 5000, api.OK)
	wantTold(t, count, 20, api.ErrSix, api.ErrAccepted, api.ErrSingle, api.ErrPassed, api.ErrNamed, api.ErrType, api.ErrTwice, api.ErrPart, api.ErrRecord, api.ErrCustody)
}

// P15.1, P15.2, P15.3: any bundles that go down, and such as do not.
func TestRandomDown(t *testing.T) {
	t.Parallel()
	r := rand.New(rand.NewSource(1515))
	count := map[api.Errno]int{}
	for range 20000 {
		count[wantPlainDown(t, randomSeven(r))]++
	}
	wantTold(t, count, 5000, api.OK)
	wantTold(t, count, 20, api.ErrSeven, api.ErrSum, api.ErrTime, api.ErrOrder, api.ErrClass, api.ErrType, api.ErrTimed, api.ErrPart, api.ErrRecord7, api.ErrCustody, api.ErrSix)
}

// P15.1, P15.3: any reports.
func TestRandomReports(t *testing.T) {
	t.Parallel()
	r := rand.New(rand.NewSource(151))
	ups, downs := map[api.Errno]int{}, map[api.Errno]int{}
	for range 20000 {
		x := randomReport(r)
		up, _ := wantPlainReports(t, x)
		ups[up]++
		x.Time *= 1000
		for i := range x.Times {
			x.Times[i] *= 1000
		}
		_, down := wantPlainReports(t, x)
		downs[down]++
	}
	wantTold(t, ups, 1000, api.OK, api.ErrRecord)
	wantTold(t, downs, 1000, api.OK, api.ErrRecord7)
}

// R1: much of anything, and wrong ones of all kinds.
func TestMuch(t *testing.T) {
	t.Parallel()
	long := strings.Repeat("\x06", 1<<20)
	for _, s := range []string{long, "\x06" + strings.Repeat("\xff", 1<<20), "\x9f" + strings.Repeat("\x82", 1<<20), "\x9f" + strings.Repeat("\x00", 1<<20)} {
		wantOver(t, 6, s, "", api.ErrSix)
		wantOver(t, 7, s, "", api.ErrSeven)
		wantOver(t, 8, s, "", api.ErrArg)
	}
	wantNoUp(t, api.Six{Flags: 16, Dest: dtn(long, long), Source: dtn(long, long), Blocks: make([]api.Block, 1<<18)}, api.ErrSix)
	wantNoDown(t, api.Seven{Sum: 2, Dest: dtn(long, long), Source: dtn(long, long), Blocks: make([]api.Block, 1<<18)}, api.ErrSeven)
	wantNoUp(t, with6(six1(), func(x *api.Six) { x.Blocks[0].Data = long }), api.ErrSix)
	wantNoDown(t, with7(seven1(), func(x *api.Seven) { x.Blocks[0].Data = long }), api.ErrSeven)
	wantNoReportUp(t, api.Report{Bits: 1, Times: make([]int, 1<<20)})
	wantNoReportDown(t, api.Report{Bits: 1, Times: make([]int, 1<<20), Source: dtn(long, long)})
	most := strings.Repeat("\xff", 600)
	var l6, l7 []api.Block
	for i := range 7 {
		l6 = append(l6, block6(20, 0, most))
		l7 = append(l7, block7(20, 2+i, 0, most))
	}
	wantBoth(t,
		with6(six1(), func(x *api.Six) { x.Blocks = append(l6, load6(most)) }),
		with7(seven1(), func(x *api.Seven) { x.Blocks = append(l7, load7(most)) }))
}

// R1: what is no bundle and no report at all.
func TestZero(t *testing.T) {
	wantNoUp(t, api.Six{}, api.ErrSix)
	wantNoDown(t, api.Seven{}, api.ErrSeven)
	wantNoReportUp(t, api.Report{})
	wantNoReportDown(t, api.Report{})
	wantOver(t, 0, "", "", api.ErrArg)
}

// R3: nil and empty lists are one, handed in.
func TestEmptyLists(t *testing.T) {
	empty := []api.Eid{}
	wantUp(t, with6(six1(), func(x *api.Six) { x.Blocks[0].Refs = empty }), seven1(), api.OK)
	wantDown(t, with7(seven1(), func(x *api.Seven) { x.Blocks[0].Refs = empty }), six1(), api.OK)
	wantNoUp(t, with6(six1(), func(x *api.Six) { x.Blocks = []api.Block{} }), api.ErrSix)
	wantNoDown(t, with7(seven1(), func(x *api.Seven) { x.Blocks = []api.Block{} }), api.ErrSeven)
	for _, times := range [][]int{nil, {}} {
		wantNoReportUp(t, api.Report{Bits: 1, Times: times})
		wantNoReportDown(t, api.Report{Bits: 1, Times: times})
	}
}

// roomy are the same blocks with spare room behind them, and behind their names.
func roomy(l []api.Block) []api.Block {
	l = append(make([]api.Block, 0, 20), l...)
	for i := range l {
		l[i].Refs = make([]api.Eid, 0, 20)
	}
	return l
}

// wantRoom wants of blocks with spare room that nothing is in that.
func wantRoom(t *testing.T, l []api.Block) {
	t.Helper()
	for _, b := range l[len(l):cap(l)] {
		if !reflect.DeepEqual(b, api.Block{}) {
			t.Errorf("in the spare room stands %s", told(b))
		}
	}
	for _, b := range l {
		if !slices.Equal(b.Refs[:cap(b.Refs)], make([]api.Eid, cap(b.Refs))) {
			t.Errorf("in the spare room stands %s", told(b.Refs))
		}
	}
}

// R3: what is handed in is not written into, nor its spare room, nor kept.
func TestHandedIn(t *testing.T) {
	for _, x := range []api.Six{six1(), six2(), admin6(reportBytes6), admin6(signalBytes)} {
		mine := x
		mine.Blocks = roomy(x.Blocks)
		got, _ := xlate.Up(mine)
		want, _ := plainUp(x)
		wantRoom(t, mine.Blocks)
		if !same6(mine, x) {
			t.Errorf("handed in was %s; it was %s", told(mine), told(x))
		}
		clear(mine.Blocks[:cap(mine.Blocks)])
		if !same7(got, want) {
			t.Errorf("an answer changed: %s", told(got))
		}
	}
	for _, x := range []api.Seven{seven1(), seven2(), admin7(reportBytes7), admin7(pduBytes)} {
		mine := x
		mine.Blocks = roomy(x.Blocks)
		got, _ := xlate.Down(mine)
		want, _ := plainDown(x)
		wantRoom(t, mine.Blocks)
		if !same7(mine, x) {
			t.Errorf("handed in was %s; it was %s", told(mine), told(x))
		}
		clear(mine.Blocks[:cap(mine.Blocks)])
		if !same6(got, want) {
			t.Errorf("an answer changed: %s", told(got))
		}
	}
}

// R3: so are reports, whose times are not written into.
func TestReportsHandedIn(t *testing.T) {
	for _, c := range []struct {
		x     api.Report
		cross func(api.Report) (api.Report, api.Errno)
		plain func(api.Report) (api.Report, api.Errno)
	}{
		{report6(), xlate.ReportUp, plainReportUp},
		{report7(), xlate.ReportDown, plainReportDown},
		{withReport(report6(), func(x *api.Report) { x.Bits = 3 }), xlate.ReportUp, plainReportUp},
		{withReport(report7(), func(x *api.Report) { x.Times[1] = 1 }), xlate.ReportDown, plainReportDown},
	} {
		mine := c.x
		mine.Times = append(make([]int, 0, 9), c.x.Times...)
		got, _ := c.cross(mine)
		if !sameReport(mine, c.x) || !slices.Equal(mine.Times[len(mine.Times):9], make([]int, 7)) {
			t.Errorf("handed in was %s; it was %s", told(mine), told(c.x))
		}
		clear(mine.Times[:cap(mine.Times)])
		if want, _ := c.plain(c.x); !sameReport(got, want) {
			t.Errorf("an answer changed: %s", told(got))
		}
	}
}

// R3: what is answered is new memory each time, spare room too.
func TestAnswered(t *testing.T) {
	for _, x := range []api.Six{six1(), six2(), admin6(reportBytes6)} {
		y, _ := xlate.Up(x)
		other, _ := xlate.Up(x)
		clear(y.Blocks[:cap(y.Blocks)])
		want, _ := plainUp(x)
		if !same7(other, want) {
			t.Errorf("two answers share memory: %s", told(other))
		}
		z, _ := xlate.Down(want)
		more, _ := xlate.Down(want)
		clear(z.Blocks[:cap(z.Blocks)])
		if !same6(more, x) {
			t.Errorf("two answers share memory: %s", told(more))
		}
	}
	a, _ := xlate.ReportUp(report6())
	b, _ := xlate.ReportUp(report6())
	clear(a.Times[:cap(a.Times)])
	if !sameReport(b, report7()) {
		t.Errorf("two answers share memory: %s", told(b))
	}
	a, _ = xlate.ReportDown(report7())
	b, _ = xlate.ReportDown(report7())
	clear(a.Times[:cap(a.Times)])
	if !sameReport(b, report6()) {
		t.Errorf("two answers share memory: %s", told(b))
	}
}

// R4: calls leave nothing behind that another one could tell.
func TestKeepsNothing(t *testing.T) {
	for range 3 {
		wantBoth(t, six2(), seven2())
		wantNoUp(t, admin6("hi"), api.ErrRecord)
		wantBoth(t, six1(), seven1())
		wantNoDown(t, admin7(pduBytes), api.ErrCustody)
		wantBoth(t, admin6(reportBytes6), admin7(reportBytes7))
		wantNoUp(t, admin6(signalBytes), api.ErrCustody)
		wantBothReports(t, report6(), report7())
		wantNoReportUp(t, withReport(report6(), func(x *api.Report) { x.Bits = 6 }))
		wantOver(t, 5, "", "", api.ErrArg)
	}
}
