package disk_test

import (
	"math"
	"math/rand"
	"slices"
	"strings"
	"testing"
	"unsafe"

	"postrider/api"
	"postrider/disk"
	"postrider/nums"
)

// plain is a disk as the chapter says it.
type plain struct {
	bytes  []byte
	armed  bool
	writes int
	cut    int
	down   bool
	done   int
}

func plainNew(sectors int) *plain { return &plain{bytes: make([]byte, sectors*64)} }

func (p *plain) has(i int) bool { return i >= 0 && i < len(p.bytes)/64 }

func (p *plain) read(i int) (string, api.Errno) {
	switch {
	case p.down:
		return "", api.ErrDown
	case !p.has(i):
		return "", api.ErrSector
	}
	return string(p.bytes[i*64 : i*64+64]), api.OK
}

func (p *plain) cutOut(at int, n int) (string, api.Errno) {
	if p.down {
		return "", api.ErrDown
	}
	return nums.Cut(string(p.bytes), at, n)
}

func (p *plain) write(i int, s string) api.Errno {
	if p.down {
		return api.ErrDown
	}
	if !p.has(i) || len(s) != 64 {
		return api.ErrSector
	}
	p.done++
	if p.armed {
		p.writes--
	}
	if !p.armed || p.writes > 0 {
		copy(p.bytes[i*64:], s)
		return api.OK
	}
	copy(p.bytes[i*64:], s[:p.cut])
	p.armed, p.down = false, true
	return api.ErrDown
}

func (p *plain) arm(writes int, cut int) api.Errno {
	if writes < 1 || cut < 0 || cut > 64 {
		return api.ErrArg
	}
	p.armed, p.writes, p.cut = true, writes, cut
	return api.OK
}

func (p *plain) restart() api.Errno {
	p.armed, p.down = false, false
	return api.OK
}

// far are whole numbers that no disk has a sector, a place or a cut for.
func far() []int {
	return []int{math.MinInt, math.MinInt + 1, -1 << 62, -1 << 32, -257, -256, -65, -64, 1 << 16, 1 << 32, 1<<32 + 1, 1 << 58, 1<<58 + 1, 1 << 62, 1<<62 + 1, math.MaxInt - 64, math.MaxInt - 1, math.MaxInt}
}

func full(letter byte) string { return strings.Repeat(string([]byte{letter}), 64) }

// lettered is a text of 64 bytes, not two of which are alike, and not one of which another such one has in its place.
func lettered(first byte) string {
	b := make([]byte, 64)
	for i := range b {
		b[i] = first + byte(i)
	}
	return string(b)
}

func opened(t *testing.T, sectors int) *disk.Disk {
	t.Helper()
	d, e := disk.New(sectors)
	if d == nil || e != api.OK {
		t.Fatalf("New(%d): %p %d", sectors, d, e)
	}
	return d
}

func wantErr(t *testing.T, call string, e api.Errno, want api.Errno) {
	t.Helper()
	if e != want {
		t.Errorf("%s: error %d, wanted %d", call, e, want)
	}
}

func wantRead(t *testing.T, d *disk.Disk, i int, want string, wrong api.Errno) {
	t.Helper()
	if s, e := d.Read(i); s != want || e != wrong {
		t.Errorf("Read(%d): %q %d; wanted %q %d", i, s, e, want, wrong)
	}
}

func wantBytes(t *testing.T, d *disk.Disk, at int, n int, want string, wrong api.Errno) {
	t.Helper()
	if s, e := d.Bytes(at, n); s != want || e != wrong {
		t.Errorf("Bytes(%d, %d): %q %d; wanted %q %d", at, n, s, e, want, wrong)
	}
}

func wantWrite(t *testing.T, d *disk.Disk, i int, s string, want api.Errno) {
	t.Helper()
	if e := d.Write(i, s); e != want {
		t.Errorf("Write(%d, %q): %d, wanted %d", i, s, e, want)
	}
}

func wantArm(t *testing.T, d *disk.Disk, writes int, cut int, want api.Errno) {
	t.Helper()
	if e := d.Arm(writes, cut); e != want {
		t.Errorf("Arm(%d, %d): %d, wanted %d", writes, cut, e, want)
	}
}

func wantRestart(t *testing.T, d *disk.Disk) {
	t.Helper()
	if e := d.Restart(); e != api.OK || d.IsDown() {
		t.Errorf("Restart: %d, down: %t", e, d.IsDown())
	}
}

func wantState(t *testing.T, d *disk.Disk, down bool, writes int) {
	t.Helper()
	if d.IsDown() != down || d.Writes() != writes {
		t.Errorf("down: %t, %d writes; wanted %t, %d", d.IsDown(), d.Writes(), down, writes)
	}
}

// wantSame wants of a disk all that the reference tells.
func wantSame(t *testing.T, d *disk.Disk, p *plain) {
	t.Helper()
	count := len(p.bytes) / 64
	wantState(t, d, p.down, p.done)
	if d.Sectors() != count {
		t.Errorf("%d sectors, wanted %d", d.Sectors(), count)
	}
	for i := -1; i <= count; i++ {
		s, e := p.read(i)
		wantRead(t, d, i, s, e)
	}
	s, e := p.cutOut(0, len(p.bytes))
	wantBytes(t, d, 0, len(p.bytes), s, e)
}

// wantTold wants that all that the disk told before is still so.
func wantTold(t *testing.T, d *disk.Disk, told []string) {
	t.Helper()
	for i, s := range told {
		wantRead(t, d, i, s, api.OK)
	}
	wantBytes(t, d, 0, 64*len(told), strings.Join(told, ""), api.OK)
}

func TestExample(t *testing.T) {
	d := opened(t, 2)
	wantArm(t, d, 2, 3, api.OK)
	wantWrite(t, d, 0, full('a'), api.OK)
	wantWrite(t, d, 1, full('b'), api.ErrDown)
	wantRestart(t, d)
	wantRead(t, d, 1, "bbb"+strings.Repeat("\x00", 61), api.OK)
	wantRead(t, d, 0, full('a'), api.OK)
}

// P18.1: all counts of sectors that may be, and those beyond.
func TestNew(t *testing.T) {
	for count := 1; count <= 256; count++ {
		wantSame(t, opened(t, count), plainNew(count))
	}
	for _, count := range append(far(), -2, -1, 0, 257, 258, 512, 65535) {
		if d, e := disk.New(count); d != nil || e != api.ErrArg {
			t.Errorf("New(%d): %p %d", count, d, e)
		}
	}
}

// P18.1: a nil disk, whatever else is wrong.
func TestNil(t *testing.T) {
	var d *disk.Disk
	for _, i := range append(far(), -1, 0, 1, 64, 65) {
		wantRead(t, d, i, "", api.ErrNil)
		for _, n := range []int{-1, 0, 1, 64, math.MaxInt} {
			wantBytes(t, d, i, n, "", api.ErrNil)
			wantArm(t, d, i, n, api.ErrNil)
		}
		for _, s := range []string{"", "a", full('a'), full('a') + "a"} {
			wantWrite(t, d, i, s, api.ErrNil)
		}
		wantErr(t, "Restart", d.Restart(), api.ErrNil)
		wantState(t, d, true, 0)
		if d.Sectors() != 0 {
			t.Errorf("%d sectors", d.Sectors())
		}
	}
}

// R1: one that New did not give has no sectors; no call panics.
func TestZero(t *testing.T) {
	var d disk.Disk
	for _, i := range append(far(), -1, 0, 1) {
		wantRead(t, &d, i, "", api.ErrSector)
		wantWrite(t, &d, i, full('a'), api.ErrSector)
		wantBytes(t, &d, i, 1, "", api.ErrShort)
	}
	wantArm(t, &d, 1, 1, api.OK)
	wantSame(t, &d, plainNew(0))
	wantRestart(t, &d)
}

// P18.1: of a disk of each size all sectors are read, and none beside them.
func TestRead(t *testing.T) {
	for _, count := range []int{1, 2, 3, 9, 255, 256} {
		d, p := opened(t, count), plainNew(count)
		for i := range count {
			wantErr(t, "Write", d.Write(i, lettered(byte(i))), p.write(i, lettered(byte(i))))
		}
		wantSame(t, d, p)
		for _, i := range append(far(), -2, -1, count, count+1, count*64, 257) {
			wantRead(t, d, i, "", api.ErrSector)
		}
		wantSame(t, d, p)
	}
}

// P18.1: pieces of the bytes, in a sector, over many, at the end, and past it.
func TestBytes(t *testing.T) {
	d, p := opened(t, 3), plainNew(3)
	for i := range 3 {
		wantErr(t, "Write", d.Write(i, lettered(byte(i*70))), p.write(i, lettered(byte(i*70))))
	}
	for at := -3; at <= 196; at++ {
		for n := -3; n <= 196; n++ {
			s, e := p.cutOut(at, n)
			wantBytes(t, d, at, n, s, e)
		}
	}
	for _, a := range far() {
		for _, b := range append(far(), -2, -1, 0, 1, 63, 64, 65, 191, 192, 193) {
			wantBytes(t, d, a, b, "", api.ErrShort)
			wantBytes(t, d, b, a, "", api.ErrShort)
		}
	}
	wantSame(t, d, p)
}

// P18.1: the bytes of a disk as great as may be.
func TestBytesOfMany(t *testing.T) {
	d, p := opened(t, 256), plainNew(256)
	for i := range 256 {
		wantErr(t, "Write", d.Write(i, lettered(byte(i*3))), p.write(i, lettered(byte(i*3))))
	}
	for _, at := range []int{0, 1, 63, 64, 65, 8191, 8192, 16320, 16383, 16384, 16385} {
		for _, n := range []int{0, 1, 63, 64, 65, 128, 8192, 16320, 16383, 16384, 16385} {
			s, e := p.cutOut(at, n)
			wantBytes(t, d, at, n, s, e)
		}
	}
}

// P18.2: what is written stands there, whatever bytes it has; another write takes its place.
func TestWrite(t *testing.T) {
	d, p := opened(t, 5), plainNew(5)
	for b := range 256 {
		for _, s := range []string{full(byte(b)), lettered(byte(b)), full(0), full(byte(b ^ 0xff))} {
			i := b % 5
			wantErr(t, "Write", p.write(i, s), api.OK)
			wantWrite(t, d, i, s, api.OK)
			wantSame(t, d, p)
		}
	}
	wantState(t, d, false, 1024)
}

// P18.2: what is wrong is not written, and is no write.
func TestWriteWrong(t *testing.T) {
	d, p := opened(t, 4), plainNew(4)
	for i := range 4 {
		wantErr(t, "Write", d.Write(i, lettered(byte(i))), p.write(i, lettered(byte(i))))
	}
	wantArm(t, d, 1, 7, api.OK)
	for _, i := range append(far(), -2, -1, 4, 5, 63, 64, 255, 256) {
		wantWrite(t, d, i, full('a'), api.ErrSector)
		wantWrite(t, d, i, "", api.ErrSector)
	}
	for n := range 200 {
		if n != 64 {
			wantWrite(t, d, n%4, strings.Repeat("a", n), api.ErrSector)
		}
	}
	wantWrite(t, d, 0, strings.Repeat("a", 1<<20), api.ErrSector)
	// Bytes are counted, not runes.
	wantWrite(t, d, 0, strings.Repeat("\u00e9", 64), api.ErrSector)
	wantSame(t, d, p)
	// None of these took from the number that it is armed with.
	wantErr(t, "Write", p.arm(1, 7), api.OK)
	wantErr(t, "Write", p.write(2, full('z')), api.ErrDown)
	wantWrite(t, d, 2, full('z'), api.ErrDown)
	wantSame(t, d, p)
	wantWrite(t, d, 0, strings.Repeat("\u00e9", 32), api.ErrDown)
	wantRestart(t, d)
	wantWrite(t, d, 0, strings.Repeat("\u00e9", 32), api.OK)
}

// P18.2 and P18.3: each cut, at each of the first writes: a beginning of the new, the end of the old, no other sector.
func TestCuts(t *testing.T) {
	for writes := 1; writes <= 6; writes++ {
		for cut := range 65 {
			d := opened(t, 3)
			old, fresh := []string{lettered(1), lettered(2), lettered(3)}, lettered(100)
			for i, s := range old {
				wantWrite(t, d, i, s, api.OK)
			}
			wantArm(t, d, writes, cut, api.OK)
			for k := range writes - 1 {
				old[k%3] = lettered(byte(200 + k))
				wantWrite(t, d, k%3, old[k%3], api.OK)
				wantState(t, d, false, 4+k)
			}
			place := (writes + cut) % 3
			wantWrite(t, d, place, fresh, api.ErrDown)
			wantState(t, d, true, 3+writes)
			wantRestart(t, d)
			old[place] = fresh[:cut] + old[place][cut:]
			wantTold(t, d, old)
			wantState(t, d, false, 3+writes)
			// It is not armed any more.
			for k := range 70 {
				wantWrite(t, d, k%3, full('q'), api.OK)
			}
		}
	}
}

// P18.2: what may be armed, and what not; what is refused changes nothing.
func TestArm(t *testing.T) {
	d := opened(t, 2)
	for cut := range 65 {
		for _, writes := range []int{1, 2, 3, 256, 1 << 32, 1 << 62, math.MaxInt} {
			wantArm(t, d, writes, cut, api.OK)
		}
	}
	wantWrite(t, d, 0, full('a'), api.OK)
	wantArm(t, d, 2, 5, api.OK)
	refuse := func() {
		t.Helper()
		for _, cut := range []int{0, 1, 5, 64} {
			for _, writes := range []int{0, -1, -2, -1 << 32, math.MinInt + 1, math.MinInt} {
				wantArm(t, d, writes, cut, api.ErrArg)
			}
		}
		for _, cut := range append(far(), -2, -1, 65, 66, 128) {
			for _, writes := range []int{1, 2, math.MaxInt, 0, -1} {
				wantArm(t, d, writes, cut, api.ErrArg)
			}
		}
	}
	refuse()
	wantWrite(t, d, 0, full('b'), api.OK)
	refuse()
	wantWrite(t, d, 1, full('c'), api.ErrDown)
	refuse()
	wantState(t, d, true, 3)
	wantRestart(t, d)
	refuse()
	wantTold(t, d, []string{full('b'), "ccccc" + full(0)[5:]})
}

// P18.2: another arming takes the place of the one before, more or fewer writes, and another cut.
func TestArmAgain(t *testing.T) {
	for first := 1; first <= 4; first++ {
		for spent := range first {
			for second := 1; second <= 4; second++ {
				d, p := opened(t, 2), plainNew(2)
				wantErr(t, "Arm", d.Arm(first, 9), p.arm(first, 9))
				for range spent {
					wantErr(t, "Write", d.Write(0, full('a')), p.write(0, full('a')))
				}
				wantErr(t, "Arm", d.Arm(second, 17), p.arm(second, 17))
				for k := range 6 {
					if e := d.Write(1, full('b')); (e == api.OK) != (k < second-1) {
						t.Errorf("Arm(%d), %d writes, Arm(%d), write %d: error %d", first, spent, second, k+1, e)
					}
					p.write(1, full('b'))
					wantSame(t, d, p)
				}
				wantRestart(t, d)
				p.restart()
				wantSame(t, d, p)
			}
		}
	}
}

// P18.1 and P18.2: of a disk that is down this is told first, and nothing changes; how many sectors and writes, it still tells.
func TestDown(t *testing.T) {
	d := opened(t, 3)
	wantWrite(t, d, 1, full('a'), api.OK)
	wantArm(t, d, 1, 64, api.OK)
	wantWrite(t, d, 0, full('b'), api.ErrDown)
	for range 3 {
		for _, i := range append(far(), -1, 0, 1, 2, 3) {
			wantRead(t, d, i, "", api.ErrDown)
			wantBytes(t, d, i, 0, "", api.ErrDown)
			wantBytes(t, d, 0, i, "", api.ErrDown)
			wantWrite(t, d, i, full('c'), api.ErrDown)
			wantWrite(t, d, i, "", api.ErrDown)
		}
		wantState(t, d, true, 2)
		if d.Sectors() != 3 {
			t.Errorf("%d sectors", d.Sectors())
		}
		// Whatever it is armed with, it stays down, and Restart ends that too.
		wantArm(t, d, 2, 3, api.OK)
		wantArm(t, d, 0, 3, api.ErrArg)
	}
	wantRestart(t, d)
	wantTold(t, d, []string{full('b'), full('a'), full(0)})
	for range 5 {
		wantWrite(t, d, 2, full('d'), api.OK)
	}
	wantState(t, d, false, 7)
}

// P18.2: Restart of what is not down ends what it is armed with, and nothing else.
func TestRestart(t *testing.T) {
	d := opened(t, 2)
	wantRestart(t, d)
	wantSame(t, d, plainNew(2))
	for writes := 1; writes <= 3; writes++ {
		wantArm(t, d, writes, 0, api.OK)
		wantRestart(t, d)
		wantRestart(t, d)
		for range 4 {
			wantWrite(t, d, 1, full('a'), api.OK)
		}
	}
	wantState(t, d, false, 12)
	wantTold(t, d, []string{full(0), full('a')})
}

// P18.3: reads change nothing, be it armed or not, right ones or wrong ones.
func TestReadsChangeNothing(t *testing.T) {
	d, p := opened(t, 2), plainNew(2)
	for _, s := range []string{full('a'), lettered(9)} {
		wantErr(t, "Write", d.Write(1, s), p.write(1, s))
	}
	wantErr(t, "Arm", d.Arm(2, 11), p.arm(2, 11))
	reads := func() {
		for i := range 100 {
			d.Read(i % 3)
			d.Bytes(i, i)
			d.Sectors()
			d.IsDown()
			d.Writes()
		}
		wantSame(t, d, p)
	}
	reads()
	for range 3 {
		wantErr(t, "Write", d.Write(0, full('b')), p.write(0, full('b')))
		reads()
	}
	if !d.IsDown() {
		t.Error("it is not down")
	}
}

// P18.3: a write changes its sector alone, at each place.
func TestWriteChangesItsSectorAlone(t *testing.T) {
	told := make([]string, 256)
	d := opened(t, 256)
	for i := range told {
		told[i] = lettered(byte(i))
		wantWrite(t, d, i, told[i], api.OK)
	}
	for i := range told {
		told[i] = lettered(byte(i + 128))
		wantWrite(t, d, i, told[i], api.OK)
		wantArm(t, d, 1, i%65, api.OK)
		wantWrite(t, d, i, full('z'), api.ErrDown)
		wantRestart(t, d)
		told[i] = full('z')[:i%65] + told[i][i%65:]
		if i%16 == 0 || i > 250 {
			wantTold(t, d, told)
		}
	}
	wantTold(t, d, told)
}

// R3 and R4: what was answered stays as it was, and no two disks have anything in common.
func TestApart(t *testing.T) {
	a, b := opened(t, 2), opened(t, 2)
	wantWrite(t, a, 1, lettered(5), api.OK)
	s, _ := a.Read(1)
	part, _ := a.Bytes(60, 10)
	wantWrite(t, a, 1, full('x'), api.OK)
	wantArm(t, a, 1, 3, api.OK)
	wantWrite(t, b, 0, full('y'), api.OK)
	wantWrite(t, a, 0, full('w'), api.ErrDown)
	if s != lettered(5) || part != "\x00\x00\x00\x00"+lettered(5)[:6] {
		t.Errorf("answered before: %q, %q", s, part)
	}
	wantState(t, b, false, 1)
	wantTold(t, b, []string{full('y'), full(0)})
	wantRestart(t, a)
	wantTold(t, a, []string{"www" + full(0)[3:], full('x')})
}

// R3: what is written is copied, and not kept.
func TestWriteKeepsNoMemory(t *testing.T) {
	d := opened(t, 1)
	room := []byte(lettered(1) + lettered(2))
	before := slices.Clone(room)
	wantWrite(t, d, 0, unsafe.String(&room[0], 64), api.OK)
	wantArm(t, d, 1, 9, api.OK)
	wantWrite(t, d, 0, unsafe.String(&room[64], 64), api.ErrDown)
	if !slices.Equal(room, before) {
		t.Errorf("what was handed in is now %q", room)
	}
	clear(room)
	wantRestart(t, d)
	wantRead(t, d, 0, string(before[64:73])+string(before[9:64]), api.OK)
}

func pick[T any](r *rand.Rand, list ...T) T { return list[r.Intn(len(list))] }

// step does one call of both, wants the same answer, and tells its error.
func step(t *testing.T, r *rand.Rand, d *disk.Disk, p *plain) api.Errno {
	t.Helper()
	count := len(p.bytes) / 64
	i := pick(r, r.Intn(count), r.Intn(count), r.Intn(count), -1, count, pick(r, far()...))
	switch r.Intn(10) {
	case 0, 1, 2, 3:
		data := make([]byte, pick(r, 64, 64, 64, 64, 64, 63, 65, 0))
		r.Read(data)
		e := p.write(i, string(data))
		wantWrite(t, d, i, string(data), e)
		return e
	case 4:
		s, e := p.read(i)
		wantRead(t, d, i, s, e)
		return e
	case 5, 6:
		at, n := r.Intn(len(p.bytes)+2), pick(r, r.Intn(len(p.bytes)+2), r.Intn(64), r.Intn(130)-1, pick(r, far()...))
		s, e := p.cutOut(at, n)
		wantBytes(t, d, at, n, s, e)
		return e
	case 7, 8:
		writes, cut := r.Intn(7), r.Intn(68)-1
		e := p.arm(writes, cut)
		wantArm(t, d, writes, cut, e)
		return e
	}
	if p.down || r.Intn(4) == 0 {
		p.restart()
		wantRestart(t, d)
	}
	return api.OK
}

func TestRandomCalls(t *testing.T) {
	r := rand.New(rand.NewSource(181))
	told := map[api.Errno]int{}
	for range 1000 {
		count := pick(r, 1, 2, 3, 9, 20, 1+r.Intn(256))
		d, p := opened(t, count), plainNew(count)
		for k := range 120 {
			told[step(t, r, d, p)]++
			wantState(t, d, p.down, p.done)
			if k%40 == 39 {
				wantSame(t, d, p)
			}
		}
		p.restart()
		wantRestart(t, d)
		wantSame(t, d, p)
	}
	for _, e := range []api.Errno{api.OK, api.ErrArg, api.ErrShort, api.ErrDown, api.ErrSector} {
		if told[e] < 2000 {
			t.Errorf("error %d came %d times", e, told[e])
		}
	}
}
