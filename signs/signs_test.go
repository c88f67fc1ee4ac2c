package signs_test

import (
	"math"
	"math/rand"
	"testing"

	"postrider/api"
	"postrider/signs"
)

const (
	maxNum  = 281474976710655
	maxTime = 281474976710
)

// flag is one that may be in a sum up to so many times.
type flag struct {
	name  string
	value int
	most  int
}

// held are the flags of a sum: how many times each is there.
type held map[string]int

// common are the flags of a bundle that chapters 8 and 11 both name, but the reports.
func common() []flag {
	return []flag{{"Fragment", 1, 1}, {"Admin", 2, 1}, {"Whole", 4, 1}, {"Ack", 32, 1}}
}

// reports are those that both versions have.
func reports() []flag {
	return []flag{{"Received", 16384, 1}, {"Forwarded", 65536, 1}, {"Delivered", 131072, 1}, {"Deleted", 262144, 1}}
}

func sixFlags() []flag {
	own := []flag{{"Custody", 8, 1}, {"Single", 16, 1}, {"Priority", 128, 2}, {"Accepted", 32768, 1}}
	return append(append(common(), reports()...), own...)
}

func sevenFlags() []flag {
	return append(append(common(), reports()...), flag{"Timed", 64, 1})
}

func sevenMarks() []flag {
	return []flag{{"Copied", 1, 1}, {"Told", 2, 1}, {"Fatal", 4, 1}, {"Skipped", 16, 1}}
}

func sixMarks() []flag {
	return append(sevenMarks(), flag{"Last", 8, 1}, flag{"Passed", 32, 1}, flag{"Named", 64, 1})
}

// sums are all that some of the flags add up to.
func sums(flags []flag) map[int]held {
	all := map[int]held{0: {}}
	for _, f := range flags {
		more := map[int]held{}
		for sum, h := range all {
			for times := 0; times <= f.most; times++ {
				next := held{f.name: times}
				for name, n := range h {
					next[name] = n
				}
				more[sum+times*f.value] = next
			}
		}
		all = more
	}
	return all
}

// added are those of the flags that are among h, added up.
func added(h held, flags []flag) int {
	sum := 0
	for _, f := range flags {
		sum += h[f.name] * f.value
	}
	return sum
}

// plain holds what the chapters say of all right flags.
type plain struct{ six, seven, sixMarks, sevenMarks map[int]held }

func newPlain() plain {
	return plain{sums(sixFlags()), sums(sevenFlags()), sums(sixMarks()), sums(sevenMarks())}
}

func (p plain) up(f int) (int, api.Errno) {
	h, right := p.six[f]
	if !right {
		return 0, api.ErrArg
	}
	if h["Accepted"] == 1 {
		return 0, api.ErrAccepted
	}
	if h["Single"] == 0 {
		return 0, api.ErrSingle
	}
	sum := added(h, reports())
	if sum > 0 {
		sum += 64
	}
	return sum + added(h, common()), api.OK
}

func (p plain) class(f int) (int, bool, api.Errno) {
	h, right := p.six[f]
	if !right {
		return 0, false, api.ErrArg
	}
	return h["Priority"], h["Custody"] == 1, api.OK
}

func (p plain) down(f int, priority int, custody bool) (int, api.Errno) {
	h, right := p.seven[f]
	if !right || priority != 0 && priority != 1 && priority != 2 {
		return 0, api.ErrArg
	}
	if (h["Timed"] == 1) != (added(h, reports()) > 0) {
		return 0, api.ErrTimed
	}
	sum := f - h["Timed"]*64 + 16 + priority*128
	if custody {
		sum += 8
	}
	return sum, api.OK
}

func (p plain) markUp(f int) (int, api.Errno) {
	h, right := p.sixMarks[f]
	switch {
	case !right:
		return 0, api.ErrArg
	case h["Passed"] == 1:
		return 0, api.ErrPassed
	case h["Named"] == 1:
		return 0, api.ErrNamed
	}
	return f - h["Last"]*8, api.OK
}

func (p plain) markDown(f int, last bool) (int, api.Errno) {
	_, right := p.sevenMarks[f]
	switch {
	case !right:
		return 0, api.ErrArg
	case last:
		return f + 8, api.OK
	}
	return f, api.OK
}

func (p plain) millis(n int) (int, api.Errno) {
	if n < 0 || n > maxTime {
		return 0, api.ErrNum
	}
	return 1000 * n, api.OK
}

func (p plain) seconds(n int) (int, api.Errno) {
	if n < 0 || n > maxNum {
		return 0, api.ErrNum
	}
	whole := n / 1000
	if whole*1000 != n {
		return 0, api.ErrTime
	}
	return whole, api.OK
}

func wantUp(t *testing.T, f int, want int, wrong api.Errno) {
	t.Helper()
	if got, e := signs.Up(f); got != want || e != wrong {
		t.Errorf("Up(%d) = %d, %d; want %d, %d", f, got, e, want, wrong)
	}
}

func wantDown(t *testing.T, f int, priority int, custody bool, want int, wrong api.Errno) {
	t.Helper()
	if got, e := signs.Down(f, priority, custody); got != want || e != wrong {
		t.Errorf("Down(%d, %d, %v) = %d, %d; want %d, %d", f, priority, custody, got, e, want, wrong)
	}
}

func wantClass(t *testing.T, f int, priority int, custody bool, wrong api.Errno) {
	t.Helper()
	if n, c, e := signs.Class(f); n != priority || c != custody || e != wrong {
		t.Errorf("Class(%d) = %d, %v, %d; want %d, %v, %d", f, n, c, e, priority, custody, wrong)
	}
}

func wantMarkUp(t *testing.T, f int, want int, wrong api.Errno) {
	t.Helper()
	if got, e := signs.MarkUp(f); got != want || e != wrong {
		t.Errorf("MarkUp(%d) = %d, %d; want %d, %d", f, got, e, want, wrong)
	}
}

func wantMarkDown(t *testing.T, f int, last bool, want int, wrong api.Errno) {
	t.Helper()
	if got, e := signs.MarkDown(f, last); got != want || e != wrong {
		t.Errorf("MarkDown(%d, %v) = %d, %d; want %d, %d", f, last, got, e, want, wrong)
	}
}

func wantMillis(t *testing.T, n int, want int, wrong api.Errno) {
	t.Helper()
	if got, e := signs.Millis(n); got != want || e != wrong {
		t.Errorf("Millis(%d) = %d, %d; want %d, %d", n, got, e, want, wrong)
	}
}

func wantSeconds(t *testing.T, n int, want int, wrong api.Errno) {
	t.Helper()
	if got, e := signs.Seconds(n); got != want || e != wrong {
		t.Errorf("Seconds(%d) = %d, %d; want %d, %d", n, got, e, want, wrong)
	}
}

// wantBundle holds all that is answered of a bundle's flags against what the chapter says.
func (p plain) wantBundle(t *testing.T, f int) {
	t.Helper()
	want, wrong := p.up(f)
	wantUp(t, f, want, wrong)
	priority, custody, wrong := p.class(f)
	wantClass(t, f, priority, custody, wrong)
	for priority := -1; priority <= 3; priority++ {
		p.wantDown(t, f, priority)
	}
}

func (p plain) wantDown(t *testing.T, f int, priority int) {
	t.Helper()
	for _, custody := range []bool{false, true} {
		want, wrong := p.down(f, priority, custody)
		wantDown(t, f, priority, custody, want, wrong)
	}
}

// wantBlock holds all that is answered of a block's flags against what the chapter says.
func (p plain) wantBlock(t *testing.T, f int) {
	t.Helper()
	want, wrong := p.markUp(f)
	wantMarkUp(t, f, want, wrong)
	for _, last := range []bool{false, true} {
		want, wrong := p.markDown(f, last)
		wantMarkDown(t, f, last, want, wrong)
	}
}

// wantTimes holds all that is answered of a time against what the chapter says.
func (p plain) wantTimes(t *testing.T, n int) {
	t.Helper()
	want, wrong := p.millis(n)
	wantMillis(t, n, want, wrong)
	want, wrong = p.seconds(n)
	wantSeconds(t, n, want, wrong)
}

// far are numbers far from those that flags are: whatever is cut off of them, or wraps round, may leave some that are.
func far() []int {
	l := []int{math.MinInt, math.MaxInt, -1}
	for shift := 19; shift < 63; shift++ {
		l = append(l, 1<<shift, -1<<shift)
	}
	return l
}

// P13.1, P13.3: the chapter's examples, and those of the whole.
func TestExamples(t *testing.T) {
	wantUp(t, 16+16384, 64+16384, api.OK)
	wantSeconds(t, 1500, 0, api.ErrTime)
	wantMillis(t, 5, 5000, api.OK)
	wantMillis(t, 9, 9000, api.OK)
	wantSeconds(t, 5001, 0, api.ErrTime)
}

// P13.1: each flag alone, each report with Timed, each error alone.
func TestBundles(t *testing.T) {
	for _, f := range []int{1, 2, 4, 32} {
		wantUp(t, 16+f, f, api.OK)
		wantDown(t, f, 0, false, 16+f, api.OK)
	}
	for _, f := range []int{16384, 65536, 131072, 262144} {
		wantUp(t, 16+f, 64+f, api.OK)
		wantDown(t, 64+f, 0, false, 16+f, api.OK)
		wantDown(t, f, 0, false, 0, api.ErrTimed)
	}
	for _, f := range []int{0, 8, 128, 256, 8 + 256} {
		wantUp(t, 16+f, 0, api.OK)
	}
	wantUp(t, 1+2+4+8+16+32+256+16384+65536+131072+262144, 1+2+4+32+64+16384+65536+131072+262144, api.OK)
	wantUp(t, 16+32768, 0, api.ErrAccepted)
	wantUp(t, 7, 0, api.ErrSingle)
	wantUp(t, 16+64, 0, api.ErrArg)
	wantUp(t, 16+512, 0, api.ErrArg)
	wantDown(t, 0, 2, true, 8+16+256, api.OK)
	wantDown(t, 0, 1, false, 16+128, api.OK)
	wantDown(t, 64, 0, false, 0, api.ErrTimed)
	for _, f := range []int{8, 16, 128, 256, 32768} {
		wantDown(t, f, 0, false, 0, api.ErrArg)
	}
	wantClass(t, 0, 0, false, api.OK)
	wantClass(t, 8, 0, true, api.OK)
	wantClass(t, 128, 1, false, api.OK)
	wantClass(t, 8+256, 2, true, api.OK)
	wantClass(t, 128+256, 0, false, api.ErrArg)
	wantClass(t, 8+64, 0, false, api.ErrArg)
}

// P13.1: flags that no bundle has together are flags, though: rules of bundles are those of other layers.
func TestBundlesOfNoRight(t *testing.T) {
	wantUp(t, 16+1+4, 1+4, api.OK)
	wantUp(t, 16+2+8+32+16384, 2+32+64+16384, api.OK)
	wantDown(t, 1+4, 0, false, 16+1+4, api.OK)
	wantDown(t, 2+32+64+16384, 1, true, 2+8+16+32+128+16384, api.OK)
	wantClass(t, 2+8+32768, 0, true, api.OK)
}

// R1: of several errors the one that its promise names first.
func TestWhichError(t *testing.T) {
	wantUp(t, 64+32768, 0, api.ErrArg)
	wantUp(t, 384, 0, api.ErrArg)
	wantUp(t, 32768, 0, api.ErrAccepted)
	wantDown(t, 64+8, 0, false, 0, api.ErrArg)
	wantDown(t, 64, 3, false, 0, api.ErrArg)
	wantDown(t, 16384, -1, true, 0, api.ErrArg)
	wantMarkUp(t, 128+32+64, 0, api.ErrArg)
	wantMarkUp(t, 32+64, 0, api.ErrPassed)
	wantSeconds(t, -1, 0, api.ErrNum)
	wantSeconds(t, maxNum+2, 0, api.ErrNum)
}

// P13.1: all flags, and all that are none, from below 0 up to behind the greatest of them.
func TestAllBundles(t *testing.T) {
	t.Parallel()
	p := newPlain()
	if len(p.six) != 6144 || len(p.seven) != 512 {
		t.Fatal(len(p.six), len(p.seven))
	}
	for f := -1 << 16; f <= 1<<20; f++ {
		p.wantBundle(t, f)
	}
}

// P13.1: right flags, and what is far from any beside them.
func TestFarBundles(t *testing.T) {
	t.Parallel()
	p := newPlain()
	for _, l := range []map[int]held{p.six, p.seven} {
		for f := range l {
			for _, n := range far() {
				p.wantBundle(t, f+n)
			}
		}
	}
}

// P13.1: priorities that are none, also such as would wrap round to one.
func TestPriorities(t *testing.T) {
	p := newPlain()
	for _, f := range []int{0, 1, 64, 16384, 64 + 16384, 8, -1} {
		for priority := -300; priority <= 300; priority++ {
			p.wantDown(t, f, priority)
		}
		for _, n := range far() {
			for priority := range 3 {
				p.wantDown(t, f, n+priority)
			}
		}
	}
}

// P13.2: each flag alone, each error alone.
func TestBlocks(t *testing.T) {
	for _, f := range []int{0, 1, 2, 4, 16, 1 + 2 + 4 + 16} {
		wantMarkUp(t, f, f, api.OK)
		wantMarkUp(t, f+8, f, api.OK)
		wantMarkUp(t, f+32, 0, api.ErrPassed)
		wantMarkUp(t, f+64, 0, api.ErrNamed)
		wantMarkUp(t, f+128, 0, api.ErrArg)
		wantMarkDown(t, f, false, f, api.OK)
		wantMarkDown(t, f, true, f+8, api.OK)
		for _, more := range []int{8, 32, 64, 128} {
			wantMarkDown(t, f+more, false, 0, api.ErrArg)
			wantMarkDown(t, f+more, true, 0, api.ErrArg)
		}
	}
}

// P13.2: all flags, and all that are none, up to behind the greatest of them, and far from any.
func TestAllBlocks(t *testing.T) {
	p := newPlain()
	if len(p.sixMarks) != 128 || len(p.sevenMarks) != 16 {
		t.Fatal(len(p.sixMarks), len(p.sevenMarks))
	}
	for f := -1 << 16; f <= 1<<16; f++ {
		p.wantBlock(t, f)
	}
	for f := range p.sixMarks {
		for _, n := range far() {
			p.wantBlock(t, f+n)
		}
		for shift := 7; shift < 19; shift++ {
			p.wantBlock(t, f+1<<shift)
		}
	}
}

// P13.3: the edges of numbers and times.
func TestTimes(t *testing.T) {
	wantMillis(t, 0, 0, api.OK)
	wantMillis(t, 1, 1000, api.OK)
	wantMillis(t, maxTime, 281474976710000, api.OK)
	wantMillis(t, maxTime+1, 0, api.ErrNum)
	wantMillis(t, -1, 0, api.ErrNum)
	wantSeconds(t, 0, 0, api.OK)
	wantSeconds(t, 1, 0, api.ErrTime)
	wantSeconds(t, 999, 0, api.ErrTime)
	wantSeconds(t, 1000, 1, api.OK)
	wantSeconds(t, 1001, 0, api.ErrTime)
	wantSeconds(t, 281474976710000, maxTime, api.OK)
	wantSeconds(t, maxNum, 0, api.ErrTime)
	wantSeconds(t, maxNum+1, 0, api.ErrNum)
	wantSeconds(t, 281474976711000, 0, api.ErrNum)
	wantSeconds(t, -1000, 0, api.ErrNum)
}

// P13.3: all times around each edge, and such as wrap round when they are made a thousand times as many.
func TestManyTimes(t *testing.T) {
	p := newPlain()
	edges := []int{0, 1000, maxTime, 281474976710000, maxNum, maxTime * 1000, 1 << 61, 1 << 62, math.MaxInt / 1000, math.MaxInt - 3000, math.MinInt + 3000}
	for _, n := range append(edges, far()...) {
		for beside := -2500; beside <= 2500; beside++ {
			p.wantTimes(t, n+beside)
		}
	}
}

// P13.4: what goes up comes down as it was: each bundle's flags, by its class.
func TestUpAndDown(t *testing.T) {
	gone := 0
	for f := range sums(sixFlags()) {
		up, e := signs.Up(f)
		if e != api.OK {
			continue
		}
		gone++
		priority, custody, e := signs.Class(f)
		if e != api.OK {
			t.Error(f, e)
		}
		wantDown(t, up, priority, custody, f, api.OK)
	}
	// All that have Single, and not Accepted.
	if gone != 6144/4 {
		t.Error(gone)
	}
}

// P13.4: what goes down comes up as it was: each bundle's flags, and its class.
func TestDownAndUp(t *testing.T) {
	gone := 0
	for f := range sums(sevenFlags()) {
		for priority := range 3 {
			for _, custody := range []bool{false, true} {
				down, e := signs.Down(f, priority, custody)
				if e != api.OK {
					continue
				}
				gone++
				wantUp(t, down, f, api.OK)
				wantClass(t, down, priority, custody, api.OK)
			}
		}
	}
	// All of the four others and the reports, with Timed just where it must be.
	if gone != 16*16*3*2 {
		t.Error(gone)
	}
}

// P13.4: each block's flags, there and back, from both sides.
func TestBlocksThereAndBack(t *testing.T) {
	gone := 0
	for f, h := range sums(sixMarks()) {
		if up, e := signs.MarkUp(f); e == api.OK {
			gone++
			wantMarkDown(t, up, h["Last"] == 1, f, api.OK)
		}
	}
	if gone != 32 {
		t.Error(gone)
	}
	for f := range sums(sevenMarks()) {
		for _, last := range []bool{false, true} {
			down, e := signs.MarkDown(f, last)
			if e != api.OK {
				t.Error(f, last, e)
			}
			wantMarkUp(t, down, f, api.OK)
		}
	}
}

// P13.4: times, there and back, from both sides.
func TestTimesThereAndBack(t *testing.T) {
	r := rand.New(rand.NewSource(13))
	for range 100000 {
		n := r.Intn(maxTime + 1)
		up, e := signs.Millis(n)
		if e != api.OK {
			t.Error(n, e)
		}
		wantSeconds(t, up, n, api.OK)
		m := r.Intn(maxNum + 1)
		if down, e := signs.Seconds(m - m%1000); e != api.OK {
			t.Error(m, e)
		} else {
			wantMillis(t, down, m-m%1000, api.OK)
		}
	}
}

// P13.1 to P13.3: any numbers, and R1: each call ends, and none panics.
func TestRandom(t *testing.T) {
	t.Parallel()
	p := newPlain()
	r := rand.New(rand.NewSource(1313))
	for range 200000 {
		n := int(r.Uint64()) >> r.Intn(64)
		p.wantBundle(t, n)
		p.wantDown(t, n, int(r.Uint64())>>r.Intn(64))
		p.wantBlock(t, n)
		p.wantTimes(t, n)
	}
}

// R4: what is answered hangs on what is handed in alone.
func TestKeepsNothing(t *testing.T) {
	for range 3 {
		wantUp(t, 8+16+256+16384, 64+16384, api.OK)
		wantClass(t, 8+16+256+16384, 2, true, api.OK)
		wantUp(t, 16, 0, api.OK)
		wantClass(t, 16, 0, false, api.OK)
		wantDown(t, 64+16384, 1, false, 16+128+16384, api.OK)
		wantDown(t, -1, 1, true, 0, api.ErrArg)
		wantDown(t, 0, 0, false, 16, api.OK)
		wantMarkUp(t, 8+1, 1, api.OK)
		wantMarkDown(t, 1, false, 1, api.OK)
		wantMillis(t, -1, 0, api.ErrNum)
		wantMillis(t, 2, 2000, api.OK)
		wantSeconds(t, 1, 0, api.ErrTime)
		wantSeconds(t, 2000, 2, api.OK)
	}
}
