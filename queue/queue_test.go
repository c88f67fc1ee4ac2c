package queue_test

import (
	"encoding/hex"
	"fmt"
	"math"
	"slices"
	"strconv"
	"strings"
	"testing"
	"unsafe"

	"postrider/api"
	"postrider/disk"
	"postrider/queue"
)

func entry(key string, custody bool) api.Entry {
	return api.Entry{Side: 7, Key: key, Data: "hi" + key, Due: 9, Custody: custody}
}

// sized is an entry with so many bytes of data.
func sized(key string, n int) api.Entry {
	e := entry(key, false)
	e.Data = strings.Repeat("z", n)
	return e
}

// numbered is an entry as it is when it waits.
func numbered(e api.Entry, id int) api.Entry {
	e.Id = id
	return e
}

func sent(e api.Entry) api.Entry {
	e.Sent = true
	return e
}

// noIds are those of no entry.
func noIds() []int {
	return []int{math.MinInt, math.MinInt + 1, -1 << 32, -256, -2, -1, 0, 61, 256, 257, 1 << 32, 1<<32 + 1, most, most + 1, most + 2, 1<<56 + 1, math.MaxInt}
}

// short is how a value is told, cut if it is very long.
func short(x any) string {
	text := fmt.Sprintf("%#v", x)
	return strings.ToValidUTF8(text[:min(len(text), 400)], "")
}

// both is a queue on a disk, and the references of both.
type both struct {
	t *testing.T
	d *disk.Disk
	p *plainDisk
	q *queue.Queue
	m *plain
}

// written is a disk with such bytes, on which there is no queue yet.
func written(t *testing.T, image []byte) *both {
	t.Helper()
	d, e := disk.New(len(image) / 64)
	if e != api.OK {
		t.Fatalf("disk.New: %d", e)
	}
	for i := range d.Sectors() {
		if e := d.Write(i, string(image[64*i:64*i+64])); e != api.OK {
			t.Fatalf("Write(%d): %d", i, e)
		}
	}
	return &both{t: t, d: d, p: &plainDisk{bytes: slices.Clone(image), done: d.Writes()}}
}

// begun is a queue on a disk with such bytes.
func begun(t *testing.T, image []byte) *both {
	t.Helper()
	b := written(t, image)
	b.wantOpen(api.OK)
	return b
}

// fresh is a queue on a new disk.
func fresh(t *testing.T, sectors int) *both {
	t.Helper()
	return begun(t, make([]byte, 64*sectors))
}

// withLog is a disk's bytes: such everywhere, but for a log, and what is behind it, in its first or second area.
func withLog(sectors int, second bool, filler byte, log string) []byte {
	image := []byte(strings.Repeat(string([]byte{filler}), 64*sectors))
	image[0] = 0
	at := 64
	if second {
		image[0] = filler | 1
		at += (sectors - 1) / 2 * 64
	}
	copy(image[at:], log)
	return image
}

// open makes a new queue on the same disk.
func (b *both) open() api.Errno {
	b.t.Helper()
	m, lost, wrong := plainNew(b.p)
	q, l, e := queue.New(b.d)
	if e != wrong || (q == nil) != (m == nil) || !slices.Equal(l, lost) {
		b.t.Fatalf("New: %p, %s, %d; wanted %p, %s, %d", q, short(l), e, m, short(lost), wrong)
	}
	b.q, b.m = q, m
	b.wantDisk()
	return e
}

func (b *both) arm(writes int, cut int) {
	b.d.Arm(writes, cut)
	b.p.arm(writes, cut)
}

func (b *both) restart() {
	b.d.Restart()
	b.p.restart()
}

func (b *both) put(e api.Entry) api.Errno {
	b.t.Helper()
	n, want := b.m.put(e)
	id, wrong := b.q.Put(e)
	if id != n || wrong != want {
		b.t.Errorf("Put(%s): %d %d; wanted %d %d", short(e), id, wrong, n, want)
	}
	return wrong
}

func called(q *queue.Queue, op int, id int) api.Errno {
	switch op {
	case api.OpSent:
		return q.Sent(id)
	case api.OpDone:
		return q.Done(id)
	}
	return q.Drop(id)
}

// change does Sent, Done or Drop.
func (b *both) change(op int, id int) api.Errno {
	b.t.Helper()
	want := b.m.change(op, id)
	wrong := called(b.q, op, id)
	if wrong != want {
		b.t.Errorf("%d of %d: %d; wanted %d", op, id, wrong, want)
	}
	return wrong
}

func (b *both) wantErr(wrong api.Errno, want api.Errno) {
	b.t.Helper()
	if wrong != want {
		b.t.Errorf("error %d, wanted %d", wrong, want)
	}
}

func (b *both) wantOpen(want api.Errno) {
	b.t.Helper()
	b.wantErr(b.open(), want)
}

func (b *both) wantPut(e api.Entry, want api.Errno) {
	b.t.Helper()
	b.wantErr(b.put(e), want)
}

func (b *both) wantChange(op int, id int, want api.Errno) {
	b.t.Helper()
	b.wantErr(b.change(op, id), want)
}

// wantDisk wants the disk to be, byte by byte, what the chapter says.
func (b *both) wantDisk() {
	b.t.Helper()
	if b.d.IsDown() != b.p.down || b.d.Writes() != b.p.done {
		b.t.Fatalf("down: %t, %d writes; wanted %t, %d", b.d.IsDown(), b.d.Writes(), b.p.down, b.p.done)
	}
	for i := range b.d.Sectors() {
		if s, e := b.d.Read(i); e == api.OK && s != string(b.p.bytes[64*i:64*i+64]) {
			b.t.Fatalf("sector %d: %x; wanted %x", i, s, b.p.bytes[64*i:64*i+64])
		}
	}
}

// wantSame wants of the queue all that the reference tells.
func (b *both) wantSame() {
	b.t.Helper()
	b.wantDisk()
	wantTold(b.t, b.q, b.m.entries, b.m.keyTexts())
	for _, k := range b.m.keys {
		want, found := api.Entry{}, false
		if at := b.m.place(k.id); at >= 0 {
			want, found = b.m.entries[at], true
		}
		if x, ok := b.q.Find(k.id); x != want || ok != found {
			b.t.Errorf("Find(%d): %s, %t; wanted %s, %t", k.id, short(x), ok, short(want), found)
		}
	}
	for _, id := range noIds() {
		if x, ok := b.q.Find(id); !b.m.hasId(id) && (x != api.Entry{} || ok) {
			b.t.Errorf("Find(%d): %s, %t", id, short(x), ok)
		}
	}
}

// again wants that a new queue tells the same, but for what is lost.
func (b *both) again() {
	b.t.Helper()
	b.wantOpen(api.OK)
	b.wantSame()
}

// wantTold wants of a queue such entries and keys, and no others.
func wantTold(t *testing.T, q *queue.Queue, entries []api.Entry, keys []string) {
	t.Helper()
	if l := q.Entries(); !slices.Equal(l, entries) {
		t.Errorf("entries %s; wanted %s", short(l), short(entries))
	}
	if l := q.Keys(); !slices.Equal(l, keys) {
		t.Errorf("keys %q; wanted %q", l, keys)
	}
	for _, k := range keys {
		if !q.Knows(k) || q.Knows(k+"'") {
			t.Errorf("Knows(%q): %t, and with ' %t", k, q.Knows(k), q.Knows(k+"'"))
		}
	}
	if q.Knows("") || q.Knows("no such key") {
		t.Error("keys are known that were never put")
	}
}

func TestExample(t *testing.T) {
	d, _ := disk.New(20)
	q, lost, e := queue.New(d)
	if q == nil || len(lost) != 0 || e != api.OK || d.Writes() != 0 {
		t.Fatalf("New: %p %s %d, %d writes", q, short(lost), e, d.Writes())
	}
	if id, e := q.Put(entry("a", false)); id != 1 || e != api.OK {
		t.Errorf("Put: %d %d", id, e)
	}
	if id, e := q.Put(entry("a", false)); id != 0 || e != api.ErrKnown {
		t.Errorf("Put again: %d %d", id, e)
	}
	if e := q.Sent(1); e != api.OK {
		t.Errorf("Sent: %d", e)
	}
	q, lost, e = queue.New(d)
	if len(lost) != 1 || lost[0] != sent(numbered(entry("a", false), 1)) || e != api.OK {
		t.Errorf("New again: %s %d", short(lost), e)
	}
	wantTold(t, q, nil, []string{"a"})
}

// The bytes of a log, worked out by hand.
func TestBytes(t *testing.T) {
	b := fresh(t, 9)
	b.wantPut(api.Entry{Side: 6, Key: "k", Data: "dd", Due: 258, Custody: true}, api.OK)
	b.wantChange(api.OpSent, 1, api.OK)
	b.wantChange(api.OpDone, 1, api.OK)
	laid := func(s string, at int) {
		t.Helper()
		want, _ := hex.DecodeString(strings.ReplaceAll(s, " ", ""))
		if got, _ := b.d.Bytes(at, len(want)); got != string(want) {
			t.Errorf("at %d: %x; wanted %x", at, got, want)
		}
	}
	laid("00", 0)
	laid("e1 01 000000000001 000b 86 000000000102 01 6b 6464", 64)
	laid("e1 02 000000000001 0000", 64+25)
	laid("e1 03 000000000001 0000", 64+39)
	laid("00 00 00", 64+53)
	b.wantSame()
}

// P19.1: no disk, one that is down, one that is too small; in this order.
func TestNewWrong(t *testing.T) {
	if q, l, e := queue.New(nil); q != nil || len(l) != 0 || e != api.ErrNil {
		t.Errorf("New(nil): %p %s %d", q, short(l), e)
	}
	if q, l, e := queue.New(&disk.Disk{}); q != nil || len(l) != 0 || e != api.ErrSmall {
		t.Errorf("New of a disk without sectors: %p %s %d", q, short(l), e)
	}
	for _, sectors := range []int{1, 2, 7, 8, 9, 10, 255, 256} {
		b := written(t, make([]byte, 64*sectors))
		want := api.OK
		if sectors < 9 {
			want = api.ErrSmall
		}
		b.wantOpen(want)
		b.arm(1, 0)
		b.d.Write(0, strings.Repeat("a", 64))
		b.p.write(0, []byte(strings.Repeat("a", 64)))
		b.wantOpen(api.ErrDown)
		b.restart()
		b.wantOpen(want)
	}
}

// P19.1 and R4: calls on a nil queue, and on one that New did not give.
func TestNil(t *testing.T) {
	var q *queue.Queue
	for _, e := range []api.Entry{entry("a", false), {}, {Id: -1, Side: 5}} {
		if id, wrong := q.Put(e); id != 0 || wrong != api.ErrNil {
			t.Errorf("Put: %d %d", id, wrong)
		}
	}
	for _, id := range append(noIds(), 1) {
		if q.Sent(id) != api.ErrNil || q.Done(id) != api.ErrNil || q.Drop(id) != api.ErrNil {
			t.Errorf("Sent, Done, Drop of %d", id)
		}
		if x, ok := q.Find(id); x != (api.Entry{}) || ok {
			t.Errorf("Find(%d): %s %t", id, short(x), ok)
		}
	}
	wantTold(t, q, nil, nil)
	wantTold(t, &queue.Queue{}, nil, nil)
	if id, wrong := (&queue.Queue{}).Put(entry("a", false)); id != 0 || wrong != api.ErrFull {
		t.Errorf("Put: %d %d", id, wrong)
	}
	if wrong := (&queue.Queue{}).Done(1); wrong != api.ErrNone {
		t.Errorf("Done: %d", wrong)
	}
}

// logs are such as queues write, and others: each with the keys, and the Ids of the entries, that they tell.
func logs() []struct {
	log  []api.Rec
	keys string
	ids  []int
} {
	put := func(id int, key string) api.Rec { return plainPut(numbered(entry(key, true), id)) }
	other := func(id int, change func(e *api.Entry)) api.Rec {
		e := numbered(entry("x", false), id)
		change(&e)
		return plainPut(e)
	}
	// These tell nothing, each for a reason of its own.
	nothing := []api.Rec{
		put(0, "x"), rec(1, 3, ""), rec(1, 3, "\x07"), rec(1, 3, "\x07\x00\x00\x00\x00\x00\x09"), rec(1, 3, "\x07\x00\x00\x00\x00\x00\x09\x01"),
		rec(1, 3, "\x07\x00\x00\x00\x00\x00\x09\x01x"), rec(1, 3, "\x07\x00\x00\x00\x00\x00\x09\x03x12"), rec(1, 3, "\x07\x00\x00\x00\x00\x00\x09\x02x1"), rec(1, 3, "\x07\x00\x00\x00\x00\x00\x09\x00x1"), rec(1, 3, "\x07\x00\x00\x00\x00\x00\x09\x00"),
		other(3, func(e *api.Entry) { e.Side = 5 }), other(3, func(e *api.Entry) { e.Side = 0 }), other(3, func(e *api.Entry) { e.Side = 8 }), other(3, func(e *api.Entry) { e.Side = 0x46 }), other(3, func(e *api.Entry) { e.Side = 0x85 }), other(3, func(e *api.Entry) { e.Side = 0xff }),
		other(3, func(e *api.Entry) { e.Key = strings.Repeat("x", 121) }), other(3, func(e *api.Entry) { e.Key = strings.Repeat("x", 255) }), other(3, func(e *api.Entry) { e.Data = "" }), other(3, func(e *api.Entry) { e.Data = strings.Repeat("x", 1501) }),
		rec(5, 3, ""), rec(5, 3, strings.Repeat("x", 121)), rec(5, 0, "x"), rec(6, 1, "x"), rec(7, 3, put(3, "x").Data), rec(8, 1, ""), rec(9, 1, ""), rec(2, 0, ""), rec(3, 0, ""), rec(4, 0, ""), rec(2, 3, ""), rec(3, 3, ""), rec(4, most, ""),
		// The Id, or the key, is among the keys.
		put(1, "x"), put(2, "x"), put(3, "a"), put(3, "b"), put(1, "a"), put(2, "a"), rec(5, 1, "x"), rec(5, 2, "x"), rec(5, 3, "a"), rec(5, 3, "b"),
	}
	list := []struct {
		log  []api.Rec
		keys string
		ids  []int
	}{
		{nil, "", nil},
		{[]api.Rec{put(1, "a")}, "a", []int{1}},
		{[]api.Rec{put(most, "a"), put(1, "b"), put(7, "c")}, "abc", []int{most, 1, 7}},
		{[]api.Rec{rec(5, most, "a"), put(1, "b"), rec(5, 7, "c")}, "abc", []int{1}},
		{[]api.Rec{put(1, "a"), rec(3, 1, "")}, "a", nil},
		{[]api.Rec{put(1, "a"), put(2, "b"), rec(4, 1, "more"), rec(3, 1, ""), rec(2, 1, "")}, "ab", []int{2}},
		{[]api.Rec{rec(2, 1, ""), rec(3, 1, ""), rec(4, 1, ""), put(1, "a")}, "a", []int{1}},
		{[]api.Rec{put(1, "a"), rec(3, 1, ""), put(1, "a"), put(1, "b"), put(2, "a"), put(2, "b")}, "ab", []int{2}},
		{[]api.Rec{rec(5, 1, "a"), rec(2, 1, ""), rec(3, 1, ""), put(1, "b"), put(2, "b")}, "ab", []int{2}},
		{[]api.Rec{put(1, "a"), rec(2, 1, "more"), put(2, "b"), rec(2, 2, ""), rec(2, 2, "")}, "ab", []int{1, 2}},
	}
	for _, r := range nothing {
		list = append(list, struct {
			log  []api.Rec
			keys string
			ids  []int
		}{[]api.Rec{put(1, "a"), rec(5, 2, "b"), r, put(4, "d")}, "abd", []int{1, 4}})
	}
	return list
}

// P19.1: what the log tells, in each area, on disks of even and odd numbers of sectors, with all kinds of bytes behind it.
func TestNewReads(t *testing.T) {
	for _, x := range logs() {
		for _, sectors := range []int{61, 62} {
			for _, second := range []bool{false, true} {
				for _, filler := range []byte{0, 1, 0x80, 0xff} {
					log := plainLay(x.log...)
					b := begun(t, withLog(sectors, second, filler, log))
					b.wantSame()
					var ids []int
					for _, e := range b.q.Entries() {
						ids = append(ids, e.Id)
					}
					if s := strings.Join(b.q.Keys(), ""); s != x.keys || !slices.Equal(ids, x.ids) {
						t.Errorf("%s tells %q %v; wanted %q %v", short(x.log), s, ids, x.keys, x.ids)
					}
					b.put(entry("more", false))
					b.again()
				}
			}
		}
	}
}

// P19.1: entries at their edges.
func TestNewReadsEdges(t *testing.T) {
	for _, side := range []int{6, 7} {
		for _, custody := range []bool{false, true} {
			for _, due := range []int{0, 1, 255, 256, 1 << 40, most - 1, most} {
				for _, size := range []int{1, 2, 1499, 1500} {
					for _, length := range []int{1, 2, 119, 120} {
						e := api.Entry{Id: most - size, Side: side, Key: strings.Repeat("\x00", length), Data: strings.Repeat("\xe1", size), Due: due, Custody: custody}
						b := begun(t, withLog(60, true, 0, plainLay(plainPut(e))))
						wantTold(t, b.q, []api.Entry{e}, []string{e.Key})
					}
				}
			}
		}
	}
}

// P19.1: the log ends at the first place where no frame stands, be it the area's end, cut or with a wrong sum.
func TestNewReadsTheLogAlone(t *testing.T) {
	a, c := plainFrame(plainPut(numbered(entry("a", true), 1))), plainFrame(plainPut(numbered(entry("c", true), 3)))
	for at := range len(a) {
		for _, bit := range []byte{1, 0x80} {
			wrong := []byte(a)
			wrong[at] ^= bit
			b := begun(t, withLog(20, false, 0, c+string(wrong)+c))
			wantTold(t, b.q, []api.Entry{numbered(entry("c", true), 3)}, []string{"c"})
			b.wantPut(entry("b", true), api.OK)
			b.again()
		}
		b := begun(t, withLog(20, true, 0, c+a[:at]+c))
		wantTold(t, b.q, []api.Entry{numbered(entry("c", true), 3)}, []string{"c"})
	}
	// What goes on beyond the area is not in the log.
	long := plainFrame(plainPut(numbered(sized("long", 235), 1)))
	b := begun(t, withLog(9, false, 0, long+c))
	wantTold(t, b.q, nil, nil)
	b = begun(t, withLog(9, false, 0, plainFrame(plainPut(numbered(sized("long", 230), 1)))+c))
	wantTold(t, b.q, []api.Entry{numbered(sized("long", 230), 1)}, []string{"long"})
	// Nor is what stands in the area that is not in use.
	b = begun(t, append(withLog(9, false, 0, c)[:64+4*64], withLog(9, false, 0, a)[64:64+4*64]...))
	wantTold(t, b.q, []api.Entry{numbered(entry("c", true), 3)}, []string{"c"})
}

// P19.1: any byte but 0 says that the second area is in use.
func TestNewArea(t *testing.T) {
	for sign := range 256 {
		image := withLog(20, false, 0, plainFrame(plainPut(numbered(entry("a", true), 1))))
		copy(image[64+9*64:], plainFrame(plainPut(numbered(entry("b", true), 1))))
		image[0] = byte(sign)
		b := begun(t, image)
		want := "b"
		if sign == 0 {
			want = "a"
		}
		wantTold(t, b.q, []api.Entry{numbered(entry(want, true), 1)}, []string{want})
		b.wantPut(entry("c", true), api.OK)
		b.again()
	}
}

// P19.1: of 60 keys and more just the first 60 are told.
func TestNewReadsManyKeys(t *testing.T) {
	for _, n := range []int{58, 59, 60, 61, 70} {
		var log []api.Rec
		for i := range n {
			r := rec(5, 100+i, "key"+strconv.Itoa(i))
			if i%3 == 2 {
				r = plainPut(numbered(entry(r.Data, true), r.Id))
			}
			log = append(log, r)
		}
		b := begun(t, withLog(256, n%2 == 0, 0xff, plainLay(log...)))
		b.wantSame()
		if got := len(b.q.Keys()); got != min(n, 60) {
			t.Errorf("of %d keys %d are told", n, got)
		}
		want := api.ErrFull
		if n < 60 {
			want = api.OK
		}
		b.wantPut(entry("more", false), want)
		b.again()
	}
}

// P19.1: what is Sent, without custody, is lost, in order, and once.
func TestLost(t *testing.T) {
	b := fresh(t, 40)
	for i, key := range []string{"a", "b", "c", "d", "e", "f"} {
		b.wantPut(entry(key, i%3 == 1), api.OK)
	}
	for _, id := range []int{6, 1, 2, 4} {
		b.wantChange(api.OpSent, id, api.OK)
	}
	b.wantChange(api.OpDone, 6, api.OK)
	q, lost, e := queue.New(b.d)
	if e != api.OK || !slices.Equal(lost, []api.Entry{sent(numbered(entry("a", false), 1)), sent(numbered(entry("d", false), 4))}) {
		t.Errorf("New: %s %d", short(lost), e)
	}
	left := []api.Entry{sent(numbered(entry("b", true), 2)), numbered(entry("c", false), 3), numbered(entry("e", true), 5)}
	wantTold(t, q, left, []string{"a", "b", "c", "d", "e", "f"})
	for range 2 {
		q, lost, e = queue.New(b.d)
		if len(lost) != 0 || e != api.OK {
			t.Errorf("New again: %s %d", short(lost), e)
		}
		wantTold(t, q, left, []string{"a", "b", "c", "d", "e", "f"})
	}
	if id, e := q.Put(entry("a", false)); id != 0 || e != api.ErrKnown {
		t.Errorf("Put of a lost one: %d %d", id, e)
	}
}

// P19.1: on a disk that others wrote on there may be no room to tell what is lost: then there is no queue, and nothing changes.
func TestLostFull(t *testing.T) {
	e := sized("a", 1)
	for size := 150; size <= 256; size++ {
		// Two records of an entry, and one of another one, fill so many bytes of the 256.
		log := plainLay(plainPut(numbered(e, 1)), rec(2, 1, ""))
		log += plainLay(plainPut(numbered(sized("b", size-len(log)-23), 2)))
		if len(log) != size {
			t.Fatalf("%d bytes, wanted %d", len(log), size)
		}
		for _, second := range []bool{false, true} {
			b := written(t, withLog(9, second, 0, log))
			want := api.OK
			if size+15 > 256 {
				want = api.ErrFull
			}
			b.wantOpen(want)
			if want == api.OK {
				b.wantSame()
				b.again()
			}
		}
	}
	// Here the log is full, but the snapshot is not.
	for n := 225; n <= 256; n++ {
		log := plainLay(plainPut(numbered(e, 1)), rec(2, 1, ""), plainPut(numbered(entry("b", true), 2)), rec(2, 2, ""))
		log += plainFrame(rec(9, 0, strings.Repeat("x", n-len(log)-14)))
		b := begun(t, withLog(9, n%2 == 0, 0xff, log))
		b.wantSame()
		b.again()
	}
}

// P19.2: what is wrong with an entry, and the edges of what is not.
func TestPut(t *testing.T) {
	b := fresh(t, 256)
	key, data := strings.Repeat("k", 120), strings.Repeat("d", 1500)
	for i, e := range []api.Entry{
		{Side: 6, Key: "1", Data: "1"}, {Side: 7, Key: "2", Data: data}, {Side: 7, Key: key, Data: "1"}, {Side: 6, Key: key[:119], Data: data, Due: most, Custody: true},
		{Side: 6, Key: "\x00", Data: "\x00"}, {Side: 7, Key: "\xe1\xff", Data: "\xed\xa0\x80", Due: 1, Custody: true}, {Side: 7, Key: strings.Repeat("\u00e9", 60), Data: strings.Repeat("\u00e9", 750), Due: 255},
	} {
		b.wantPut(e, api.OK)
		if x, ok := b.q.Find(i + 1); !ok || x != numbered(e, i+1) {
			t.Errorf("Find(%d): %s %t; wanted %s", i+1, short(x), ok, short(e))
		}
		b.wantPut(e, api.ErrKnown)
		b.again()
	}
	good := entry("new", false)
	for _, change := range wrongs() {
		e := good
		change(&e)
		b.wantPut(e, api.ErrEntry)
		// That its key is known is told behind that.
		if e.Key == good.Key {
			e.Key = "1"
			b.wantPut(e, api.ErrEntry)
		}
	}
	b.wantPut(api.Entry{}, api.ErrEntry)
	b.wantSame()
	b.wantPut(good, api.OK)
	b.again()
}

// wrongs make an entry wrong, each in its way.
func wrongs() []func(*api.Entry) {
	var list []func(*api.Entry)
	for _, n := range []int{math.MinInt, -1, 0, 1, 2, 3, 4, 5, 8, 9, 70, 71, 128, 134, 135, 256 + 6, 256 + 7, 1<<32 + 6, math.MaxInt} {
		list = append(list, func(e *api.Entry) { e.Side = n })
	}
	for _, n := range []int{math.MinInt, -most, -1, most + 1, most + 2, 1 << 56, math.MaxInt} {
		list = append(list, func(e *api.Entry) { e.Due = n })
	}
	for _, n := range []int{0, 121, 122, 255, 256, 257, 256 + 120, 1 << 16} {
		list = append(list, func(e *api.Entry) { e.Key = strings.Repeat("k", n) })
	}
	for _, n := range []int{0, 1501, 1502, 2000, 2001, 1 << 16, 1<<16 + 1} {
		list = append(list, func(e *api.Entry) { e.Data = strings.Repeat("d", n) })
	}
	for _, n := range []int{math.MinInt, -1, 1, 2, 8, 9, most, most + 1, math.MaxInt} {
		list = append(list, func(e *api.Entry) { e.Id = n })
	}
	return append(list, func(e *api.Entry) { e.Sent = true }, func(e *api.Entry) { e.Side, e.Data = 0, strings.Repeat("d", 2000) })
}

// P19.2: the next Id is one more than the greatest of all keys, and is a number.
func TestPutNextId(t *testing.T) {
	for _, greatest := range []int{1, 255, 256, 1 << 32, most - 2, most - 1, most} {
		for _, r := range []api.Rec{rec(5, greatest, "a"), plainPut(numbered(entry("a", true), greatest))} {
			b := begun(t, withLog(20, false, 0, plainLay(r, rec(5, 1, "b"))))
			want, known := api.OK, api.ErrKnown
			if greatest == most {
				want, known = api.ErrEntry, api.ErrEntry
			}
			b.wantPut(entry("a", true), known)
			b.wantPut(entry("c", true), want)
			b.wantSame()
			b.again()
		}
	}
	b := fresh(t, 20)
	for id := 1; id <= 5; id++ {
		b.wantPut(entry(strconv.Itoa(id), false), api.OK)
		if _, ok := b.q.Find(id); !ok {
			t.Errorf("no entry has the Id %d", id)
		}
		// Its Id is not given again.
		b.wantChange(api.OpDrop, id, api.OK)
	}
	b.again()
}

// P19.2: keys stay known, whatever became of their entries.
func TestPutKnown(t *testing.T) {
	b := fresh(t, 20)
	for i, op := range []int{api.OpSent, api.OpDone, api.OpDrop, 0} {
		key := "key" + strconv.Itoa(op)
		b.wantPut(entry(key, true), api.OK)
		if op != 0 {
			b.wantChange(op, i+1, api.OK)
		}
		for _, e := range []api.Entry{entry(key, true), entry(key, false), {Side: 6, Key: key, Data: "other", Due: 77}} {
			b.wantPut(e, api.ErrKnown)
		}
		b.again()
		b.wantPut(entry(key, false), api.ErrKnown)
		b.wantSame()
	}
	// Without room for it, known is told first.
	b.wantPut(numbered(sized("key3", 1500), 0), api.ErrKnown)
	b.wantPut(sized("key1", 1500), api.ErrFull)
}

// P19.2: room, to the byte, for an entry alone, and for one beside others that are Sent or not.
func TestPutRoom(t *testing.T) {
	for _, sectors := range []int{9, 10, 11, 20} {
		for _, state := range []string{"", "w", "s", "ww", "sw", "d", "dsw"} {
			b := fresh(t, sectors)
			for i, letter := range state {
				b.wantPut(entry(strconv.Itoa(i), true), api.OK)
				switch letter {
				case 's':
					b.wantChange(api.OpSent, i+1, api.OK)
				case 'd':
					b.wantChange(api.OpDone, i+1, api.OK)
				}
			}
			left := b.m.room(numbered(sized("new", 1), len(state)+1))
			if left < 10 {
				continue
			}
			for more := 1; more < 40; more++ {
				b.wantPut(sized("new", 1+left+more), api.ErrFull)
			}
			b.wantSame()
			b.wantPut(sized("new", 1+left), api.OK)
			b.wantPut(sized("newer", 1), api.ErrFull)
			b.again()
			wantAllEnds(b)
		}
	}
}

// wantAllEnds wants that all entries that wait can be Sent and then end.
func wantAllEnds(b *both) {
	b.t.Helper()
	list := b.q.Entries()
	for _, e := range list {
		b.wantChange(api.OpSent, e.Id, api.OK)
	}
	for i, e := range list {
		b.wantChange(api.OpDone+i%2, e.Id, api.OK)
	}
	b.wantSame()
	b.again()
}

// P19.2: 60 keys, and no more, though their entries are long gone.
func TestPutManyKeys(t *testing.T) {
	b := fresh(t, 256)
	for i := range 60 {
		b.wantPut(entry("key"+strconv.Itoa(i), false), api.OK)
		if i%2 == 0 {
			b.wantChange(api.OpDrop, i+1, api.OK)
		}
	}
	b.wantPut(entry("more", false), api.ErrFull)
	b.wantPut(entry("key0", false), api.ErrKnown)
	b.wantPut(entry("", false), api.ErrEntry)
	wantAllEnds(b)
	b.wantPut(entry("more", false), api.ErrFull)
	b.again()
}

// P19.2: what there is no entry for, and what is told already.
func TestChange(t *testing.T) {
	b := fresh(t, 20)
	ops := []int{api.OpSent, api.OpDone, api.OpDrop}
	none := func(ids ...int) {
		t.Helper()
		for _, id := range append(noIds(), ids...) {
			for _, op := range ops {
				b.wantChange(op, id, api.ErrNone)
			}
		}
		b.wantSame()
	}
	none(1, 2)
	for _, key := range []string{"a", "b", "c", "d"} {
		b.wantPut(entry(key, true), api.OK)
	}
	none(5)
	writes := b.d.Writes()
	b.wantChange(api.OpSent, 2, api.OK)
	if b.d.Writes() == writes {
		t.Error("Sent wrote nothing")
	}
	writes = b.d.Writes()
	b.wantChange(api.OpSent, 2, api.OK)
	b.wantChange(api.OpSent, 2, api.OK)
	if b.d.Writes() != writes {
		t.Error("what is Sent already was written again")
	}
	b.wantChange(api.OpDone, 2, api.OK)
	b.wantChange(api.OpDrop, 3, api.OK)
	b.wantChange(api.OpDone, 1, api.OK)
	none(1, 2, 3, 5)
	b.again()
	none(1, 2, 3, 5)
	wantTold(t, b.q, []api.Entry{numbered(entry("d", true), 4)}, []string{"a", "b", "c", "d"})
}

// P19.2: on a disk that others wrote on there may be no room for more: nothing changes then.
func TestChangeFull(t *testing.T) {
	for size := 200; size <= 256; size++ {
		e := numbered(sized("b", size-26-23), 2)
		e.Custody = true
		log := plainLay(plainPut(numbered(entry("a", true), 1)), plainPut(e))
		for _, op := range []int{api.OpSent, api.OpDone, api.OpDrop} {
			b := begun(t, withLog(9, size%2 == 0, 0, log))
			want := api.OK
			if size+15 > 256 {
				want = api.ErrFull
			}
			b.wantChange(op, 1+size%2, want)
			b.wantSame()
			b.again()
		}
	}
}

// P19.2: the log is compacted, into one area and the other one in turn; all that does not lie in its bytes stays.
func TestCompact(t *testing.T) {
	for _, sectors := range []int{9, 10, 12, 21} {
		for _, second := range []bool{false, true} {
			for _, filler := range []byte{0, 0x55, 0xe1} {
				b := begun(t, withLog(sectors, second, filler, "\x00"))
				turns := 0
				for i := range 55 {
					was := b.m.second
					if b.put(entry("key"+strconv.Itoa(i), i%2 == 0)) != api.OK {
						break
					}
					if i%5 != 4 {
						b.wantChange(api.OpSent, i+1, api.OK)
						b.wantChange(api.OpDone+i%2, i+1, api.OK)
					}
					if was != b.m.second {
						turns++
					}
					b.wantSame()
				}
				if turns < 2 {
					t.Errorf("on %d sectors the log was compacted %d times", sectors, turns)
				}
				b.again()
			}
		}
	}
}

// P19.2: a log of records that tell nothing may be full; its snapshot is a byte 0 alone.
func TestCompactNothing(t *testing.T) {
	for n := 230; n <= 256; n++ {
		b := begun(t, withLog(9, n%2 == 0, 0xaa, plainFrame(rec(6, 9, strings.Repeat("x", n-14)))))
		b.wantPut(entry("a", false), api.OK)
		b.wantSame()
		b.again()
	}
}

// P19.3 and R3: what is answered is new memory, and stays as it was.
func TestAnswersAreNew(t *testing.T) {
	b := fresh(t, 20)
	for _, key := range []string{"a", "b", "c"} {
		b.wantPut(entry(key, false), api.OK)
	}
	b.wantChange(api.OpSent, 1, api.OK)
	for range 3 {
		l, keys := b.q.Entries(), b.q.Keys()
		l, keys = l[:cap(l)], keys[:cap(keys)]
		for i := range l {
			l[i] = entry("other", true)
		}
		for i := range keys {
			keys[i] = "other"
		}
		b.wantSame()
	}
	l, keys := b.q.Entries(), b.q.Keys()
	b.wantChange(api.OpSent, 2, api.OK)
	b.wantChange(api.OpDone, 1, api.OK)
	b.wantPut(entry("d", false), api.OK)
	if len(l) != 3 || !l[0].Sent || l[1].Sent || l[2].Key != "c" || strings.Join(keys, "") != "abc" {
		t.Errorf("answered before: %s %q", short(l), keys)
	}
	_, lost, _ := queue.New(b.d)
	if len(lost) != 1 || lost[0] != sent(numbered(entry("b", false), 2)) {
		t.Errorf("lost: %s", short(lost))
	}
}

// R3: an entry's texts are copied, and not kept.
func TestPutKeepsNoMemory(t *testing.T) {
	b := fresh(t, 20)
	room := []byte("keydatakey2data2")
	e := api.Entry{Side: 6, Key: unsafe.String(&room[0], 3), Data: unsafe.String(&room[3], 4), Due: 1}
	b.wantErr(second(b.q.Put(e)), api.OK)
	clear(room)
	want := api.Entry{Id: 1, Side: 6, Key: "key", Data: "data", Due: 1}
	wantTold(t, b.q, []api.Entry{want}, []string{"key"})
	q, _, _ := queue.New(b.d)
	wantTold(t, q, []api.Entry{want}, []string{"key"})
}

func second(_ int, wrong api.Errno) api.Errno { return wrong }

// R4: no two queues have anything in common but what they are on.
func TestApart(t *testing.T) {
	a, b := fresh(t, 20), fresh(t, 30)
	a.wantPut(entry("a", false), api.OK)
	b.wantSame()
	b.wantPut(entry("b", false), api.OK)
	b.arm(1, 5)
	b.wantChange(api.OpSent, 1, api.ErrDown)
	a.wantChange(api.OpSent, 1, api.OK)
	a.wantSame()
	b.restart()
	b.again()
}
