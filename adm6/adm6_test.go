package adm6_test

import (
	"fmt"
	"math"
	"math/rand"
	"reflect"
	"slices"
	"strconv"
	"strings"
	"testing"

	"postrider/adm6"
	"postrider/api"
	"postrider/eid"
)

const (
	maxNum  = 281474976710655
	maxTime = 281474976710
)

func none() api.Eid { return api.Eid{} }

func dtn(node string, service string) api.Eid {
	return api.Eid{Scheme: api.Dtn, Node: node, Service: service}
}

func ipn(a int, b int) api.Eid { return api.Eid{Scheme: api.Ipn, A: a, B: b} }

// example is that of the chapter's table.
func example() api.Report {
	return api.Report{Bits: 5, Times: []int{9, 10}, Source: ipn(1, 1), Time: 7, Seq: 3}
}

// plainExample is a signal of the same bundle.
func plainExample() api.Signal {
	return api.Signal{Good: true, At: 5, Source: ipn(1, 1), Time: 7, Seq: 3}
}

// rightReports are reports that have bytes.
func rightReports() []api.Report {
	longest := dtn(strings.Repeat("a", 20), strings.Repeat("/", 20))
	return []api.Report{
		example(),
		{Bits: 1, Times: []int{0}},
		{Bits: 16, Times: []int{300}, Reason: 255, Part: true, Off: 2, Len: 128},
		{Bits: 31, Times: []int{1, 2, 3, 4, 5}, Reason: 1, Source: ipn(1, 1), Time: 7, Seq: 3},
		{Bits: 31, Times: slices.Repeat([]int{maxTime}, 5), Reason: 255, Source: longest, Time: maxTime, Seq: maxNum, Part: true, Off: 5, Len: maxNum - 5},
		{Bits: 10, Times: []int{128, 0}, Reason: 128, Source: dtn("earth", "news"), Part: true},
		{Bits: 24, Times: []int{9, 9}, Reason: 10, Source: ipn(999999999, 999999999), Time: 128, Seq: 16384, Part: true, Off: maxNum},
		{Bits: 2, Times: []int{127}, Source: dtn("earth", ""), Time: 1, Seq: 0, Part: true, Len: maxNum},
	}
}

// rightSignals are signals that have bytes.
func rightSignals() []api.Signal {
	longest := dtn(strings.Repeat("a", 20), strings.Repeat("/", 20))
	return []api.Signal{
		plainExample(),
		{},
		{Good: true},
		{Reason: 127, At: 5, Source: ipn(1, 1), Time: 7, Seq: 3, Part: true, Off: 1, Len: 2},
		{Good: true, Reason: 127, At: maxTime, Source: longest, Time: maxTime, Seq: maxNum, Part: true, Off: maxNum - 7, Len: 7},
		{Reason: 1, At: 128, Source: dtn("earth", ""), Part: true},
		{Reason: 16, At: 300, Source: ipn(4, 0), Part: true, Len: maxNum},
		{Good: true, Reason: 5, Source: dtn("earth", "news"), Time: 128, Seq: 16384, Part: true, Off: maxNum},
	}
}

// plainBundle is what the chapter says of what both kinds have.
func plainBundle(most int, source api.Eid, time int, seq int, part bool, off int, size int) bool {
	switch {
	case !eid.Right(source), time < 0, time > most, seq < 0, seq > maxNum:
		return false
	case !part:
		return off == 0 && size == 0
	}
	return off >= 0 && off <= maxNum && size >= 0 && size <= maxNum-off
}

// plainFits is what the chapter says of a report that fits, sentence by sentence.
func plainFits(x api.Report, most int) bool {
	left, count := x.Bits, 0
	for _, bit := range []int{16, 8, 4, 2, 1} {
		if left >= bit {
			left -= bit
			count++
		}
	}
	if x.Bits <= 0 || left != 0 || len(x.Times) != count {
		return false
	}
	for _, at := range x.Times {
		if at < 0 || at > most {
			return false
		}
	}
	return x.Reason >= 0 && x.Reason <= 255 && plainBundle(most, x.Source, x.Time, x.Seq, x.Part, x.Off, x.Len)
}

func plainRight(x api.Signal) bool {
	if x.Reason < 0 || x.Reason > 127 || x.At < 0 || x.At > maxTime {
		return false
	}
	return plainBundle(maxTime, x.Source, x.Time, x.Seq, x.Part, x.Off, x.Len)
}

// plainGroups are those of numbers, as chapter 2 says them.
func plainGroups(list ...int) string {
	s := ""
	for _, n := range list {
		own := string([]byte{byte(n % 128)})
		for n /= 128; n > 0; n /= 128 {
			own = string([]byte{byte(n%128 + 128)}) + own
		}
		s += own
	}
	return s
}

// plainName is the text of a right name, as chapter 6 says it.
func plainName(e api.Eid) string {
	switch e.Scheme {
	case api.Dtn:
		return "dtn://" + e.Node + "/" + e.Service
	case api.Ipn:
		return "ipn:" + strconv.Itoa(e.A) + "." + strconv.Itoa(e.B)
	}
	return "dtn:none"
}

// plainTail is what stands behind the times.
func plainTail(source api.Eid, time int, seq int) string {
	return plainGroups(time, seq, len(plainName(source))) + plainName(source)
}

// plainReport are a right report's bytes, as the chapter says them.
func plainReport(x api.Report) string {
	s := "\x10"
	if x.Part {
		s = "\x11"
	}
	s += string([]byte{byte(x.Bits), byte(x.Reason)})
	if x.Part {
		s += plainGroups(x.Off, x.Len)
	}
	for _, at := range x.Times {
		s += plainGroups(at) + "\x00"
	}
	return s + plainTail(x.Source, x.Time, x.Seq)
}

// plainSignal are a right signal's bytes, as the chapter says them.
func plainSignal(x api.Signal) string {
	s := "\x20"
	if x.Part {
		s = "\x21"
	}
	why := x.Reason
	if x.Good {
		why += 128
	}
	s += string([]byte{byte(why)})
	if x.Part {
		s += plainGroups(x.Off, x.Len)
	}
	return s + plainGroups(x.At) + "\x00" + plainTail(x.Source, x.Time, x.Seq)
}

// cursor reads a text front to back, till something is wrong.
type cursor struct {
	left  string
	wrong bool
}

func (c *cursor) take(n int) string {
	if c.wrong || n < 0 || n > len(c.left) {
		c.wrong = true
		return ""
	}
	s := c.left[:n]
	c.left = c.left[n:]
	return s
}

func (c *cursor) single() int {
	if s := c.take(1); s != "" {
		return int(s[0])
	}
	return 0
}

func (c *cursor) number() int {
	n := 0
	for !c.wrong {
		b := c.single()
		if n > math.MaxInt>>7 {
			break
		}
		n = n<<7 + b&127
		if b < 128 {
			return n
		}
	}
	c.wrong = true
	return 0
}

func (c *cursor) name() api.Eid {
	e, wrong := eid.Parse(c.take(c.number()))
	c.wrong = c.wrong || wrong != api.OK
	return e
}

// plainReadReport reads a report, and tells whether it is a right one that has just these bytes.
func plainReadReport(s string) (api.Report, bool) {
	c := cursor{left: s}
	x := api.Report{Part: c.single()%2 == 1, Bits: c.single(), Reason: c.single()}
	if x.Part {
		x.Off, x.Len = c.number(), c.number()
	}
	for bit := 1; bit <= 16; bit *= 2 {
		if x.Bits/bit%2 == 1 {
			x.Times = append(x.Times, c.number())
			c.number()
		}
	}
	x.Time, x.Seq, x.Source = c.number(), c.number(), c.name()
	if c.wrong || !plainFits(x, maxTime) || plainReport(x) != s {
		return api.Report{}, false
	}
	return x, true
}

// plainReadSignal reads a signal likewise.
func plainReadSignal(s string) (api.Signal, bool) {
	c := cursor{left: s}
	x := api.Signal{Part: c.single()%2 == 1}
	why := c.single()
	x.Good, x.Reason = why >= 128, why%128
	if x.Part {
		x.Off, x.Len = c.number(), c.number()
	}
	x.At = c.number()
	c.number()
	x.Time, x.Seq, x.Source = c.number(), c.number(), c.name()
	if c.wrong || !plainRight(x) || plainSignal(x) != s {
		return api.Signal{}, false
	}
	return x, true
}

// plainSame is what the chapter says of Same: nil and empty lists are one.
func plainSame(a api.Report, b api.Report) bool { return reflect.DeepEqual(copied(a), copied(b)) }

// copied is the same report in a list of its own.
func copied(x api.Report) api.Report {
	x.Times = append([]int{}, x.Times...)
	return x
}

// told keeps what is told of long lists and texts readable.
func told(x any) string {
	s := fmt.Sprintf("%+v", x)
	return strconv.Quote(s[:min(len(s), 300)])
}

// wantReport holds all that is answered of a report, right or not, against what the chapter says.
func wantReport(t *testing.T, x api.Report) {
	t.Helper()
	for _, most := range []int{math.MinInt, -1, 0, 6, 7, 9, 10, 300, maxTime - 1, maxTime, maxTime + 1, maxNum, math.MaxInt} {
		if got := adm6.Fits(x, most); got != plainFits(x, most) {
			t.Errorf("Fits(%v, %d) = %v", told(x), most, got)
		}
	}
	if !adm6.Same(x, copied(x)) {
		t.Errorf("%v is not the same as itself", told(x))
	}
	s, e := adm6.Report(x)
	if !plainFits(x, maxTime) {
		if s != "" || e != api.ErrRecord {
			t.Errorf("Report(%v) = %v, %d", told(x), told(s), e)
		}
		return
	}
	if want := plainReport(x); s != want || e != api.OK {
		t.Errorf("Report(%v) = %q, %d; want %q", told(x), s, e, want)
	}
	wantReadReport(t, plainReport(x), x)
}

func wantRightReport(t *testing.T, x api.Report) {
	t.Helper()
	if !plainFits(x, maxTime) {
		t.Errorf("%v is not right", told(x))
	}
	wantReport(t, x)
}

func wantWrongReport(t *testing.T, x api.Report) {
	t.Helper()
	if plainFits(x, maxTime) {
		t.Errorf("%v is right", told(x))
	}
	wantReport(t, x)
}

// wantSignal holds all that is answered of a signal, right or not, against what the chapter says.
func wantSignal(t *testing.T, x api.Signal) {
	t.Helper()
	s, e := adm6.Signal(x)
	if !plainRight(x) {
		if s != "" || e != api.ErrRecord {
			t.Errorf("Signal(%v) = %v, %d", told(x), told(s), e)
		}
		return
	}
	if want := plainSignal(x); s != want || e != api.OK {
		t.Errorf("Signal(%v) = %q, %d; want %q", told(x), s, e, want)
	}
	wantReadSignal(t, plainSignal(x), x)
}

func wantRightSignal(t *testing.T, x api.Signal) {
	t.Helper()
	if !plainRight(x) {
		t.Errorf("%v is not right", told(x))
	}
	wantSignal(t, x)
}

func wantWrongSignal(t *testing.T, x api.Signal) {
	t.Helper()
	if plainRight(x) {
		t.Errorf("%v is right", told(x))
	}
	wantSignal(t, x)
}

func wantReadReport(t *testing.T, s string, want api.Report) {
	t.Helper()
	if x, e := adm6.ReadReport(s); !plainSame(x, want) || e != api.OK {
		t.Errorf("ReadReport(%v) = %v, %d; want %v", told(s), told(x), e, told(want))
	}
	wantNoSignal(t, s)
	wantKind(t, s, 1)
}

func wantReadSignal(t *testing.T, s string, want api.Signal) {
	t.Helper()
	if x, e := adm6.ReadSignal(s); x != want || e != api.OK {
		t.Errorf("ReadSignal(%v) = %v, %d; want %v", told(s), told(x), e, told(want))
	}
	wantNoReport(t, s)
	wantKind(t, s, 2)
}

func wantNoReport(t *testing.T, s string) {
	t.Helper()
	if x, e := adm6.ReadReport(s); !plainSame(x, api.Report{}) || e != api.ErrRecord {
		t.Errorf("ReadReport(%v) = %v, %d", told(s), told(x), e)
	}
}

func wantNoSignal(t *testing.T, s string) {
	t.Helper()
	if x, e := adm6.ReadSignal(s); x != (api.Signal{}) || e != api.ErrRecord {
		t.Errorf("ReadSignal(%v) = %v, %d", told(s), told(x), e)
	}
}

func wantKind(t *testing.T, s string, want int) {
	t.Helper()
	if got := adm6.Kind(s); got != want {
		t.Errorf("Kind(%v) = %d; want %d", told(s), got, want)
	}
}

func wantNone(t *testing.T, s string) {
	t.Helper()
	wantNoReport(t, s)
	wantNoSignal(t, s)
	wantKind(t, s, 0)
}

// wantPlain wants of any bytes what the chapter says of them.
func wantPlain(t *testing.T, s string) {
	t.Helper()
	x, report := plainReadReport(s)
	y, signal := plainReadSignal(s)
	switch {
	case report:
		wantReadReport(t, s, x)
	case signal:
		wantReadSignal(t, s, y)
	default:
		wantNone(t, s)
	}
}

// P9.1: what the chapter's table says.
func TestExample(t *testing.T) {
	wantRightReport(t, example())
	wantReadReport(t, "\x10\x05\x00\x09\x00\x0a\x00\x07\x03\x07ipn:1.1", example())
}

// P9.1, P9.2, written out: of parts, good and not, with long numbers.
func TestBytes(t *testing.T) {
	wantReadReport(t, "\x10\x01\x00\x00\x00\x00\x00\x08dtn:none", api.Report{Bits: 1, Times: []int{0}})
	wantReadReport(t, "\x11\x18\xff\x02\x81\x00\x82\x2c\x00\x05\x00\x81\x00\x82\x2c\x10dtn://earth/news", api.Report{Bits: 24, Times: []int{300, 5}, Reason: 255, Source: dtn("earth", "news"), Time: 128, Seq: 300, Part: true, Off: 2, Len: 128})
	wantReadSignal(t, "\x20\x00\x00\x00\x00\x00\x08dtn:none", api.Signal{})
	wantReadSignal(t, "\x20\x80\x05\x00\x07\x03\x07ipn:1.1", plainExample())
	wantReadSignal(t, "\x21\x7f\x81\x00\x02\x82\x2c\x00\x07\x03\x07ipn:1.1", api.Signal{Reason: 127, At: 300, Source: ipn(1, 1), Time: 7, Seq: 3, Part: true, Off: 128, Len: 2})
	wantReadSignal(t, "\x21\xff\x00\x00\x00\x00\x00\x00\x08dtn:none", api.Signal{Good: true, Reason: 127, Part: true})
}

// P9.1 to P9.3
func TestRightOnes(t *testing.T) {
	for _, x := range rightReports() {
		wantRightReport(t, x)
	}
	for _, x := range rightSignals() {
		wantRightSignal(t, x)
	}
}

// P9.1: all bits, with as many times as they are, with fewer, and with more.
func TestBits(t *testing.T) {
	times := []int{5, 4, 3, 2, 1, 0, 6, 7}
	for bits := -3; bits < 300; bits++ {
		for count := range times {
			x := example()
			x.Bits, x.Times = bits, times[:count]
			wantReport(t, x)
		}
	}
	for bit := range 64 {
		for count := range times {
			for _, low := range []int{0, 1, 5, 16, 31} {
				x := example()
				x.Bits, x.Times = low|1<<bit, times[:count]
				wantReport(t, x)
				x.Bits = low - 1<<bit
				wantReport(t, x)
			}
		}
	}
	x := example()
	x.Bits, x.Times = 0, nil
	wantWrongReport(t, x)
	x.Bits, x.Times = 32, nil
	wantWrongReport(t, x)
}

// edges are where a number may begin or stop to be right.
func edges() []int {
	l := []int{math.MinInt, math.MinInt + 1, math.MaxInt, math.MaxInt - 1, math.MaxInt - maxNum, -1 << 48, -1 << 32}
	for _, n := range []int{0, 7, 9, 16, 31, 32, 127, 128, 255, 256, 300, 16384, 1 << 32, maxTime, maxNum, maxNum - 5, maxNum - 7} {
		l = append(l, n-2, n-1, n, n+1, n+2)
	}
	return l
}

func reportFields(x *api.Report) []*int {
	l := []*int{&x.Bits, &x.Reason, &x.Time, &x.Seq, &x.Off, &x.Len}
	for i := range x.Times {
		l = append(l, &x.Times[i])
	}
	return l
}

func signalFields(x *api.Signal) []*int {
	return []*int{&x.Reason, &x.At, &x.Time, &x.Seq, &x.Off, &x.Len}
}

func wantSame(t *testing.T, a api.Report, b api.Report) {
	t.Helper()
	if adm6.Same(a, b) != plainSame(a, b) || adm6.Same(b, a) != plainSame(a, b) {
		t.Errorf("Same(%v, %v) is not %v", told(a), told(b), plainSame(a, b))
	}
}

// P9.1: each number at its edges, of a part and not.
func TestNumbers(t *testing.T) {
	for _, x := range rightReports() {
		for i := range reportFields(&x) {
			for _, n := range edges() {
				y := copied(x)
				*reportFields(&y)[i] = n
				wantReport(t, y)
				wantSame(t, x, y)
				y.Part = !y.Part
				wantReport(t, y)
				wantSame(t, x, y)
			}
		}
	}
	for _, x := range rightSignals() {
		for i := range signalFields(&x) {
			for _, n := range edges() {
				y := x
				*signalFields(&y)[i] = n
				wantSignal(t, y)
				y.Part = !y.Part
				wantSignal(t, y)
				y.Good = !y.Good
				wantSignal(t, y)
			}
		}
	}
}

// P9.1: what the edges of numbers are, one by one.
func TestLimits(t *testing.T) {
	for n, change := range []func(x *api.Report, y *api.Signal, past int){
		func(x *api.Report, y *api.Signal, past int) { x.Reason, y.Reason = 255+past, 127+past },
		func(x *api.Report, y *api.Signal, past int) { x.Reason, y.Reason = -past, -past },
		func(x *api.Report, y *api.Signal, past int) { x.Times[0], y.At = maxTime+past, maxTime+past },
		func(x *api.Report, y *api.Signal, past int) { x.Times[1], y.At = -past, -past },
		func(x *api.Report, y *api.Signal, past int) { x.Time, y.Time = maxTime+past, maxTime+past },
		func(x *api.Report, y *api.Signal, past int) { x.Time, y.Time = -past, -past },
		func(x *api.Report, y *api.Signal, past int) { x.Seq, y.Seq = maxNum+past, maxNum+past },
		func(x *api.Report, y *api.Signal, past int) { x.Seq, y.Seq = -past, -past },
		func(x *api.Report, y *api.Signal, past int) { x.Off, y.Off = past, past },
		func(x *api.Report, y *api.Signal, past int) { x.Len, y.Len = past, past },
		func(x *api.Report, y *api.Signal, past int) { x.Off, y.Off = -past, -past },
		func(x *api.Report, y *api.Signal, past int) { x.Len, y.Len = -past, -past },
	} {
		x, y := example(), plainExample()
		change(&x, &y, 0)
		wantRightReport(t, x)
		wantRightSignal(t, y)
		change(&x, &y, 1)
		if plainFits(x, maxTime) || plainRight(y) {
			t.Errorf("change %d leaves something right", n)
		}
		wantWrongReport(t, x)
		wantWrongSignal(t, y)
	}
}

// P9.1: a part's numbers are together a number, whatever is great.
func TestParts(t *testing.T) {
	for _, off := range edges() {
		for _, size := range edges() {
			for _, part := range []bool{false, true} {
				x, y := example(), plainExample()
				x.Part, x.Off, x.Len = part, off, size
				y.Part, y.Off, y.Len = part, off, size
				wantReport(t, x)
				wantSignal(t, y)
			}
		}
	}
	x := example()
	x.Part, x.Off, x.Len = true, 1, maxNum-1
	wantRightReport(t, x)
	x.Len = maxNum
	wantWrongReport(t, x)
	x.Off, x.Len = maxNum, maxNum
	wantWrongReport(t, x)
}

// P9.1: times up to a most, which is any number.
func TestFits(t *testing.T) {
	for _, most := range edges() {
		for _, at := range edges() {
			for place := range 3 {
				x := example()
				*[]*int{&x.Times[0], &x.Times[1], &x.Time}[place] = at
				if got, want := adm6.Fits(x, most), most >= 7 && at >= 0 && at <= most && plainFits(x, most); got != want {
					t.Errorf("Fits(%v, %d) = %v", told(x), most, got)
				}
			}
		}
	}
	x := example()
	if adm6.Fits(x, 9) || !adm6.Fits(x, 10) || adm6.Fits(x, -1) {
		t.Error("the most is not that of all times")
	}
	// The most is not that of a report that has bytes.
	x.Times[1] = maxTime + 1
	if !adm6.Fits(x, maxTime+1) || adm6.Fits(x, maxTime) {
		t.Error("the most is not the one handed in")
	}
	wantWrongReport(t, x)
	x.Times[1], x.Time = 10, math.MaxInt
	if !adm6.Fits(x, math.MaxInt) || adm6.Fits(x, math.MaxInt-1) {
		t.Error("the most is not that of the bundle's time")
	}
	wantWrongReport(t, x)
}

// wrongNames are of no endpoint.
func wrongNames() []api.Eid {
	return []api.Eid{
		{Scheme: -1}, {Scheme: 3}, {Scheme: math.MaxInt}, {A: 1}, {B: 7}, {Node: "a"}, {Service: "a"},
		dtn("", ""), dtn("A", ""), dtn("a\x00", "b"), dtn("a", "\xff"), dtn(strings.Repeat("a", 21), ""), dtn("a", strings.Repeat("a", 21)),
		{Scheme: api.Dtn, Node: "a", A: 1}, ipn(0, 0), ipn(-1, 0), ipn(4, -1), ipn(1000000000, 0), ipn(4, 1000000000), {Scheme: api.Ipn, A: 4, Node: "a"},
	}
}

// P9.1: the source's name.
func TestNames(t *testing.T) {
	for _, x := range rightReports() {
		for _, e := range wrongNames() {
			y := copied(x)
			y.Source = e
			wantWrongReport(t, y)
			wantSame(t, x, y)
		}
		for _, e := range []api.Eid{none(), dtn("a", "b"), dtn("z", ""), dtn("-.9", "/"), ipn(1, 0), ipn(999999999, 999999999)} {
			y := copied(x)
			y.Source = e
			wantRightReport(t, y)
			wantSame(t, x, y)
		}
	}
	for _, x := range rightSignals() {
		for _, e := range wrongNames() {
			x.Source = e
			wantWrongSignal(t, x)
		}
	}
}

// P9.1: the same, field by field and time by time, also of wrong reports.
func TestSame(t *testing.T) {
	all := append(rightReports(), api.Report{}, api.Report{Bits: -1, Seq: math.MinInt}, api.Report{Part: true}, api.Report{Times: []int{0}}, api.Report{Times: []int{0, 0}}, api.Report{Times: []int{-1}})
	for _, e := range wrongNames() {
		all = append(all, api.Report{Source: e}, api.Report{Bits: 1, Times: []int{0}, Source: e})
	}
	for _, x := range rightReports() {
		turned, more, fewer := copied(x), copied(x), copied(x)
		slices.Reverse(turned.Times)
		more.Times = append(more.Times, 0)
		fewer.Times = fewer.Times[1:]
		all = append(all, turned, more, fewer)
		for i := range reportFields(&x) {
			y := copied(x)
			*reportFields(&y)[i]++
			all = append(all, y)
			x.Part = !x.Part
		}
	}
	for i, a := range all {
		for j, b := range all {
			wantSame(t, a, b)
			if i == j && !adm6.Same(a, b) {
				t.Errorf("%v is not the same as itself", told(a))
			}
		}
	}
}

// R3: nil and empty lists are one.
func TestEmptyLists(t *testing.T) {
	if !adm6.Same(api.Report{}, api.Report{Times: []int{}}) || !adm6.Same(api.Report{Times: []int{}}, api.Report{}) {
		t.Error("nil and empty lists are told from each other")
	}
	wantWrongReport(t, api.Report{Times: []int{}})
	wantWrongReport(t, api.Report{Bits: 1, Times: []int{}})
}

// allBytes are those of right records of both kinds.
func allBytes() []string {
	var l []string
	for _, x := range rightReports() {
		l = append(l, plainReport(x))
	}
	for _, x := range rightSignals() {
		l = append(l, plainSignal(x))
	}
	return l
}

// P9.1 to P9.3: whatever byte is put into a record's bytes, taken out, or another one.
func TestReadChanged(t *testing.T) {
	for _, s := range allBytes() {
		for i := range len(s) {
			wantNone(t, s[:i])
			wantPlain(t, s[i:])
			wantPlain(t, s[:i]+s[i+1:])
			for b := range 256 {
				c := string([]byte{byte(b)})
				wantPlain(t, s[:i]+c+s[i+1:])
				wantPlain(t, s[:i]+c+s[i:])
			}
		}
		for b := range 256 {
			wantNone(t, s+string([]byte{byte(b)}))
		}
		wantNone(t, s+s)
	}
	wantNone(t, "")
}

// P9.1, P9.2: pieces left out, told twice, or exchanged.
func TestReadPieces(t *testing.T) {
	for _, s := range allBytes() {
		for i := range len(s) + 1 {
			for j := i; j <= len(s); j++ {
				wantPlain(t, s[:i]+s[j:])
				wantPlain(t, s[:j]+s[i:])
				if j < len(s) && i < j {
					wantPlain(t, s[:i]+s[j:j+1]+s[i+1:j]+s[i:i+1]+s[j+1:])
				}
			}
		}
	}
}

// P9.1, P9.2: all that may stand ahead: kinds, bits, reasons.
func TestReadHeads(t *testing.T) {
	stamps := strings.Repeat("\x09\x00", 6)
	for mark := range 256 {
		for second := range 256 {
			for _, count := range []int{0, 1, 2, 5, 6} {
				head := string([]byte{byte(mark), byte(second)})
				tail := stamps[:2*count] + "\x07\x03\x07ipn:1.1"
				wantPlain(t, head+tail)
				wantPlain(t, head+"\xff"+tail)
			}
		}
	}
}

// P9.1: numbers that are told in too many groups, are too great, or not those of what stands there.
func TestReadNumbers(t *testing.T) {
	for _, n := range edges() {
		if n < 0 {
			continue
		}
		g := plainGroups(n)
		for _, s := range []string{
			"\x10\x05\x00" + g + "\x00\x0a\x00\x07\x03\x07ipn:1.1",
			"\x10\x05\x00\x09" + g + "\x0a\x00\x07\x03\x07ipn:1.1",
			"\x10\x05\x00\x09\x00" + g + "\x00\x07\x03\x07ipn:1.1",
			"\x10\x05\x00\x09\x00\x0a" + g + "\x07\x03\x07ipn:1.1",
			"\x10\x05\x00\x09\x00\x0a\x00" + g + "\x03\x07ipn:1.1",
			"\x10\x05\x00\x09\x00\x0a\x00\x07" + g + "\x07ipn:1.1",
			"\x10\x05\x00\x09\x00\x0a\x00\x07\x03" + g + "ipn:1.1",
			"\x11\x01\x00" + g + "\x05\x09\x00\x07\x03\x07ipn:1.1",
			"\x11\x01\x00\x05" + g + "\x09\x00\x07\x03\x07ipn:1.1",
			"\x20\x80" + g + "\x00\x07\x03\x07ipn:1.1",
			"\x20\x80\x05" + g + "\x07\x03\x07ipn:1.1",
			"\x20\x80\x05\x00" + g + "\x03\x07ipn:1.1",
			"\x20\x80\x05\x00\x07" + g + "\x07ipn:1.1",
			"\x20\x80\x05\x00\x07\x03" + g + "ipn:1.1",
			"\x21\x80" + g + "\x07\x05\x00\x07\x03\x07ipn:1.1",
			"\x21\x80\x07" + g + "\x05\x00\x07\x03\x07ipn:1.1",
		} {
			wantPlain(t, s)
		}
	}
	// What stands ahead of the numbers is no groups.
	for s, first := range map[string]int{
		"\x10\x05\x00\x09\x00\x0a\x00\x07\x03\x07ipn:1.1": 3,
		"\x11\x01\x00\x02\x03\x09\x00\x07\x03\x07ipn:1.1": 3,
		"\x20\x80\x05\x00\x07\x03\x07ipn:1.1":             2,
		"\x21\x80\x01\x02\x05\x00\x07\x03\x07ipn:1.1":     2,
	} {
		for i := first; i < len(s)-len("ipn:1.1"); i++ {
			wantNone(t, s[:i]+"\x80"+s[i:])
			wantNone(t, s[:i]+strings.Repeat("\x80", 9)+s[i:])
			wantNone(t, s[:i]+strings.Repeat("\xff", 9)+s[i:])
		}
	}
}

// P9.1: texts that are no names, or names that have another text.
func TestReadNames(t *testing.T) {
	for _, name := range []string{"", "dtn", "dtn:", "dtn:none ", " dtn:none", "dtn:None", "dtn://", "dtn:///a", "dtn://a", "dtn://a\x00/b", "dtn://A/", "ipn:", "ipn:1", "ipn:1.", "ipn:.1", "ipn:0.1", "ipn:01.1", "ipn:1.01", "ipn:+1.1", "ipn:-1.1", "ipn:1.1.1", "ipn:1000000000.0", "IPN:1.1", "imc:1.1", "dtn://" + strings.Repeat("a", 21) + "/"} {
		tail := "\x07\x03" + plainGroups(len(name)) + name
		wantNone(t, "\x10\x01\x00\x09\x00"+tail)
		wantNone(t, "\x11\x01\x00\x02\x03\x09\x00"+tail)
		wantNone(t, "\x20\x80\x09\x00"+tail)
		wantNone(t, "\x21\x00\x02\x03\x09\x00"+tail)
	}
	for _, name := range []string{"dtn:none", "dtn://a/", "dtn://a//", "dtn://none/none", "ipn:1.0", "ipn:999999999.999999999"} {
		e, _ := eid.Parse(name)
		tail := "\x07\x03" + plainGroups(len(name)) + name
		wantReadReport(t, "\x10\x01\x00\x09\x00"+tail, api.Report{Bits: 1, Times: []int{9}, Source: e, Time: 7, Seq: 3})
		wantReadSignal(t, "\x20\x80\x09\x00"+tail, api.Signal{Good: true, At: 9, Source: e, Time: 7, Seq: 3})
	}
}

// random is a record of each kind, both often right.
func random(r *rand.Rand) (api.Report, api.Signal) {
	number := func(most int) int { return r.Intn(most>>r.Intn(48) + 1) }
	pool := []api.Eid{none(), ipn(4, 7), ipn(300, 16384), dtn("a", "b"), dtn("none", ""), dtn("a", "/b"), dtn("A", "")}
	x := api.Report{Bits: r.Intn(33), Reason: number(256), Source: pool[r.Intn(len(pool))], Time: number(maxTime), Seq: number(maxNum), Part: r.Intn(2) == 0}
	for bit := 1; bit <= 16; bit *= 2 {
		if x.Bits&bit != 0 || r.Intn(40) == 0 {
			x.Times = append(x.Times, number(maxTime))
		}
	}
	if x.Part {
		x.Off = number(maxNum)
		x.Len = number(maxNum + 1 - x.Off)
	}
	y := api.Signal{Good: r.Intn(2) == 0, Reason: number(128), At: number(maxTime), Source: x.Source, Time: x.Time, Seq: x.Seq, Part: x.Part, Off: x.Off, Len: x.Len}
	return x, y
}

// P9.1 to P9.3: there and back.
func TestRandom(t *testing.T) {
	r := rand.New(rand.NewSource(9))
	right := 0
	for range 20000 {
		x, y := random(r)
		wantReport(t, x)
		wantSignal(t, y)
		if !plainFits(x, maxTime) || !plainRight(y) {
			continue
		}
		right++
		for _, s := range []string{plainReport(x), plainSignal(y)} {
			i := r.Intn(len(s))
			wantPlain(t, s[:i]+string([]byte{byte(r.Intn(256))})+s[i+1:])
		}
	}
	if right < 5000 {
		t.Errorf("only %d records of each kind were right", right)
	}
}

// P9.3: what is read, of whatever bytes, has just these, and is of one kind.
func TestReadHasTheseBytes(t *testing.T) {
	r := rand.New(rand.NewSource(93))
	all := allBytes()
	for range 200000 {
		b := []byte(all[r.Intn(len(all))])
		for range 1 + r.Intn(3) {
			b[r.Intn(len(b))] = byte(r.Intn(256) >> r.Intn(8))
		}
		wantPlain(t, string(b))
		x, e := adm6.ReadReport(string(b))
		y, f := adm6.ReadSignal(string(b))
		if e == api.OK && f == api.OK {
			t.Errorf("%q are bytes of both kinds", b)
		}
		if s, _ := adm6.Report(x); e == api.OK && s != string(b) {
			t.Errorf("ReadReport(%q) = %v, which has %q", b, told(x), s)
		}
		if s, _ := adm6.Signal(y); f == api.OK && s != string(b) {
			t.Errorf("ReadSignal(%q) = %v, which has %q", b, told(y), s)
		}
	}
}

// R1: much of anything is refused too.
func TestMuch(t *testing.T) {
	for _, c := range []string{"\x00", "\x01", "\x10", "\x1f", "\x20", "\x7f", "\x80", "\xff", "a", "\x10\x05", "\x20\x80"} {
		s := strings.Repeat(c, 1<<20)
		wantNone(t, s)
		for _, ahead := range []string{"\x10", "\x11", "\x10\x1f", "\x10\x05\x00", "\x11\x05\x00\x01", "\x10\x05\x00\x09\x00\x0a\x00\x07\x03", "\x10\x05\x00\x09\x00\x0a\x00\x07\x03\xc0\x80\x00", "\x20", "\x21", "\x20\x80\x05", "\x20\x80\x05\x00\x07\x03", "\x20\x80\x05\x00\x07\x03\xc0\x80\x00"} {
			wantNone(t, ahead+s)
		}
		for _, all := range allBytes()[:2] {
			wantNone(t, all+s)
		}
		x, y := example(), plainExample()
		x.Source, y.Source = dtn(s, s), dtn(s, s)
		wantWrongReport(t, x)
		wantWrongSignal(t, y)
	}
	for _, bits := range []int{0, 1, 31, 1 << 20, math.MaxInt, -1} {
		x := example()
		x.Bits, x.Times = bits, make([]int, 1<<20)
		wantWrongReport(t, x)
	}
}

// R3: what is handed in is not written into, nor its spare room, nor kept.
func TestHandedIn(t *testing.T) {
	x := example()
	x.Times = append(make([]int, 0, 20), 9, 10)
	s, _ := adm6.Report(x)
	adm6.Fits(x, 10)
	if !adm6.Same(x, example()) || !plainSame(x, example()) {
		t.Errorf("handed in was %v", told(x))
	}
	for _, n := range x.Times[2:20] {
		if n != 0 {
			t.Errorf("in the spare room stands %d", n)
		}
	}
	clear(x.Times)
	if s != plainReport(example()) {
		t.Errorf("Report = %q", s)
	}
}

// R3: what is answered is new memory each time.
func TestAnswered(t *testing.T) {
	for _, want := range rightReports() {
		s := plainReport(want)
		x, _ := adm6.ReadReport(s)
		y, _ := adm6.ReadReport(s)
		clear(x.Times[:cap(x.Times)])
		if !plainSame(y, want) {
			t.Errorf("two answers share memory: %v", told(y))
		}
		wantReadReport(t, s, want)
	}
}

// R4: calls leave nothing behind that another one could tell.
func TestKeepsNothing(t *testing.T) {
	for i, x := range rightReports() {
		y := rightSignals()[i]
		s, u := plainReport(x), plainSignal(y)
		wantNone(t, s[:len(s)-1])
		wantWrongReport(t, api.Report{Bits: x.Bits})
		wantRightReport(t, x)
		wantRightSignal(t, y)
		wantNone(t, u[:len(u)/2])
		wantWrongSignal(t, api.Signal{Off: 1})
		wantRightReport(t, example())
		wantRightSignal(t, y)
		wantRightReport(t, x)
	}
}
