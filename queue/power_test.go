package queue_test

import (
	"math/rand"
	"slices"
	"strconv"
	"strings"
	"testing"

	"postrider/api"
	"postrider/queue"
)

// P19.2 and P19.3: a queue that is down tells what it told ahead of the call that did that, and refuses all else, also when the power is there again.
func TestDown(t *testing.T) {
	for _, fails := range []func(b *both){
		func(b *both) { b.wantPut(entry("new", true), api.ErrDown) },
		func(b *both) { b.wantChange(api.OpSent, 2, api.ErrDown) },
		func(b *both) { b.wantChange(api.OpDone, 1, api.ErrDown) },
		func(b *both) { b.wantChange(api.OpDrop, 3, api.ErrDown) },
	} {
		for _, writes := range []int{1, 2} {
			b := fresh(t, 20)
			for i := range 3 {
				b.wantPut(entry("key"+strconv.Itoa(i), i == 0), api.OK)
			}
			b.wantChange(api.OpSent, 1, api.OK)
			entries, keys := b.q.Entries(), b.q.Keys()
			b.arm(writes, 64)
			fails(b)
			for range 2 {
				b.wantSame()
				wantTold(t, b.q, entries, keys)
				b.wantPut(entry("other", true), api.ErrDown)
				b.wantPut(entry("key1", true), api.ErrDown)
				b.wantPut(api.Entry{}, api.ErrDown)
				for _, id := range []int{-1, 0, 1, 2, 3, 4} {
					b.wantChange(api.OpSent, id, api.ErrDown)
					b.wantChange(api.OpDone, id, api.ErrDown)
					b.wantChange(api.OpDrop, id, api.ErrDown)
				}
				b.restart()
			}
			b.again()
		}
	}
}

// P19.2: a queue is down when a write of its own tells ErrDown, not ahead of it.
func TestDiskIsDownAlready(t *testing.T) {
	lose := func(b *both) {
		b.arm(1, 7)
		last := b.d.Sectors() - 1
		b.d.Write(last, strings.Repeat("a", 64))
		b.p.write(last, []byte(strings.Repeat("a", 64)))
	}
	opened := func() *both {
		b := fresh(t, 20)
		b.wantPut(entry("a", true), api.OK)
		b.wantChange(api.OpSent, 1, api.OK)
		lose(b)
		b.wantPut(api.Entry{}, api.ErrEntry)
		b.wantPut(entry("a", true), api.ErrKnown)
		b.wantPut(sized("b", 1500), api.ErrFull)
		b.wantChange(api.OpDone, 2, api.ErrNone)
		b.wantChange(api.OpSent, 1, api.OK)
		b.wantSame()
		return b
	}
	b := opened()
	b.restart()
	b.wantPut(entry("b", true), api.OK)
	b.wantChange(api.OpDone, 1, api.OK)
	b.again()
	b = opened()
	b.wantPut(entry("b", true), api.ErrDown)
	b.wantChange(api.OpSent, 1, api.ErrDown)
	b.restart()
	b.wantChange(api.OpSent, 1, api.ErrDown)
	b.wantPut(api.Entry{}, api.ErrDown)
	b.again()
	b = opened()
	b.wantChange(api.OpDone, 1, api.ErrDown)
	b.wantPut(sized("b", 1500), api.ErrDown)
	b.restart()
	b.again()
}

// step is a call of a queue: of an entry, or an Op of an Id.
type step struct {
	e  api.Entry
	op int
	id int
}

func (s step) do(b *both) api.Errno {
	b.t.Helper()
	if s.op == api.OpPut {
		return b.put(s.e)
	}
	return b.change(s.op, s.id)
}

// story are calls that all are OK on disks of 11 sectors: entries in one sector and in many, with the log compacted meanwhile.
func story() []step {
	put := func(key string, n int, custody bool) step {
		e := sized(key, n)
		e.Custody = custody
		return step{e: e, op: api.OpPut}
	}
	list := []step{put("a", 1, true), {op: api.OpSent, id: 1}, put("b", 60, false), put("c", 17, true), {op: api.OpSent, id: 3}, {op: api.OpDone, id: 3}}
	list = append(list, step{op: api.OpSent, id: 2}, put("d", 3, false), step{op: api.OpDrop, id: 2}, put("e", 70, true), step{op: api.OpSent, id: 4}, step{op: api.OpDone, id: 4})
	list = append(list, step{op: api.OpSent, id: 5}, step{op: api.OpDrop, id: 5}, put("f", 20, true), step{op: api.OpSent, id: 6}, step{op: api.OpDone, id: 6})
	return append(list, put("g", 9, false), step{op: api.OpDone, id: 1}, put("h", 5, true), step{op: api.OpDrop, id: 7})
}

// told is what a queue tells.
type told struct {
	entries []api.Entry
	keys    []string
}

func toldBy(q *queue.Queue) told { return told{q.Entries(), q.Keys()} }

// behindLoss is what is left of it, and what is lost, behind a power loss.
func (x told) behindLoss() (told, []api.Entry) {
	var lost []api.Entry
	left := told{keys: x.keys}
	for _, e := range x.entries {
		if e.Sent && !e.Custody {
			lost = append(lost, e)
		} else {
			left.entries = append(left.entries, e)
		}
	}
	return left, lost
}

func (x told) same(y told) bool {
	return slices.Equal(x.entries, y.entries) && slices.Equal(x.keys, y.keys)
}

// upTo is a queue on a disk of 11 sectors, full of such bytes, behind so many calls of the story.
func upTo(t *testing.T, n int, filler byte) *both {
	t.Helper()
	b := begun(t, withLog(11, filler == 1, filler, "\x00"))
	for _, s := range story()[:n] {
		b.wantErr(s.do(b), api.OK)
	}
	return b
}

// P19.4: the power goes at each write of each call, cut anywhere: of that call all or nothing is known, of all others all.
func TestPower(t *testing.T) {
	seen := map[string]int{}
	for n := range story() {
		for _, filler := range []byte{0, 1, 0xe1} {
			for writes := 1; ; writes++ {
				went := false
				for cut := range 65 {
					b := upTo(t, n, filler)
					ahead := toldBy(b.q)
					b.arm(writes, cut)
					if went = story()[n].do(b) == api.ErrDown; !went {
						break
					}
					if !toldBy(b.q).same(ahead) {
						t.Errorf("call %d, write %d, cut %d: the queue tells %s; ahead of it %s", n, writes, cut, short(toldBy(b.q)), short(ahead))
					}
					b.restart()
					seen[wantAllOrNothing(b, ahead, toldBy(upTo(t, n+1, filler).q))]++
				}
				if !went {
					break
				}
			}
		}
	}
	if seen["all"] < 1000 || seen["nothing"] < 1000 {
		t.Errorf("power losses told %v", seen)
	}
}

// wantAllOrNothing wants of a disk what was known ahead of a call, or behind it, and tells which.
func wantAllOrNothing(b *both, ahead told, behind told) string {
	b.t.Helper()
	which := ""
	b.wantOpen(api.OK)
	got := toldBy(b.q)
	for name, x := range map[string]told{"nothing": ahead, "all": behind} {
		if left, _ := x.behindLoss(); left.same(got) {
			which = name
		}
	}
	if which == "" {
		b.t.Errorf("known are %s; ahead of the call %s, behind it %s", short(got), short(ahead), short(behind))
	}
	b.again()
	if !toldBy(b.q).same(got) {
		b.t.Errorf("known are %s; a moment ago %s", short(toldBy(b.q)), short(got))
	}
	// It goes on from there.
	b.wantPut(entry("new", true), api.OK)
	b.again()
	return which
}

// P19.1 and P19.4: the power goes while it is told what is lost: no queue, all else is known, and each is told once, or not at all.
func TestPowerInNew(t *testing.T) {
	start := func(filler byte) *both {
		b := begun(t, withLog(15, filler == 1, filler, "\x00"))
		for i := range 5 {
			b.wantPut(entry("key"+strconv.Itoa(i), i == 2), api.OK)
			b.wantChange(api.OpSent, i+1, api.OK)
		}
		for i := 6; i < 11; i++ {
			b.wantPut(sized("key"+strconv.Itoa(i), 3), api.OK)
			b.wantChange(api.OpDrop, i, api.OK)
		}
		return b
	}
	for _, filler := range []byte{0, 1, 0xe1} {
		left, lost := toldBy(start(filler).q).behindLoss()
		for writes, went := 1, true; went; writes++ {
			for cut := range 65 {
				b := start(filler)
				b.arm(writes, cut)
				if went = b.open() == api.ErrDown; !went {
					break
				}
				b.restart()
				_, again, e := plainNew(&plainDisk{bytes: slices.Clone(b.p.bytes)})
				b.wantErr(e, api.OK)
				b.wantOpen(api.OK)
				if !toldBy(b.q).same(left) || len(again) > len(lost) || !slices.Equal(again, lost[len(lost)-len(again):]) {
					t.Errorf("write %d, cut %d: known are %s, lost %s", writes, cut, short(toldBy(b.q)), short(again))
				}
				b.again()
			}
		}
	}
}

func pick[T any](r *rand.Rand, list ...T) T { return list[r.Intn(len(list))] }

// randomEntry is one that mostly may be put.
func randomEntry(r *rand.Rand) api.Entry {
	key := pick(r, "k"+strconv.Itoa(r.Intn(80)), strings.Repeat("q", 100+r.Intn(22)), "", "a")
	data := make([]byte, pick(r, 1, 2, r.Intn(40), r.Intn(40), r.Intn(200), r.Intn(1600)))
	r.Read(data)
	return api.Entry{Id: pick(r, 0, 0, 0, 0, 0, 0, 0, 0, 1), Side: pick(r, 6, 7, 6, 7, 6, 7, 6, 7, 5), Key: key, Data: string(data), Due: pick(r, 9, most, r.Intn(most), r.Intn(most), -1), Custody: r.Intn(2) == 0, Sent: r.Intn(20) == 0}
}

// randomLog are records such as queues write, and others.
func randomLog(r *rand.Rand) string {
	var list []api.Rec
	for range r.Intn(40) {
		e := numbered(randomEntry(r), pick(r, r.Intn(12), r.Intn(100), most))
		switch r.Intn(7) {
		case 0, 1, 2:
			list = append(list, plainPut(e))
		case 3:
			list = append(list, rec(5, e.Id, e.Key))
		default:
			list = append(list, rec(pick(r, 2, 2, 3, 4, 6, 9), r.Intn(12), pick(r, "", "", "", e.Data[:min(len(e.Data), 20)])))
		}
	}
	return plainLay(list...)
}

// randomDisk is one that others may have written on.
func randomDisk(r *rand.Rand) []byte {
	sectors := pick(r, 9, 10, 11, 20, 21, 50, 255, 256, 9+r.Intn(40))
	if r.Intn(3) == 0 {
		return make([]byte, 64*sectors)
	}
	if r.Intn(3) == 0 {
		return withLog(sectors, r.Intn(2) == 0, byte(r.Intn(256)), "\x00")
	}
	return withLog(sectors, r.Intn(2) == 0, byte(r.Intn(256)), randomLog(r))
}

// randomCall does one call, of an entry that waits as often as not.
func randomCall(r *rand.Rand, b *both) api.Errno {
	b.t.Helper()
	if r.Intn(3) == 0 {
		return b.put(randomEntry(r))
	}
	id := pick(r, append(noIds(), r.Intn(80))...)
	if l := b.m.entries; len(l) > 0 && r.Intn(8) > 0 {
		id = l[r.Intn(len(l))].Id
	}
	return b.change(pick(r, api.OpSent, api.OpSent, api.OpDone, api.OpDrop), id)
}

// Random calls on random disks, whose power goes at random, held against the reference.
func TestRandomCalls(t *testing.T) {
	r := rand.New(rand.NewSource(191))
	seen := map[api.Errno]int{}
	for range 1500 {
		b := written(t, randomDisk(r))
		if b.open() != api.OK {
			seen[api.ErrFull]++
			continue
		}
		for range 80 {
			if r.Intn(12) == 0 {
				b.arm(1+r.Intn(8), r.Intn(65))
			}
			seen[randomCall(r, b)]++
			if r.Intn(10) == 0 {
				b.wantSame()
			}
			for again := b.d.IsDown() || r.Intn(20) == 0; again; again = b.q == nil {
				b.restart()
				if r.Intn(4) == 0 {
					b.arm(1+r.Intn(4), r.Intn(65))
				}
				if b.open() == api.ErrFull {
					break
				}
			}
			if b.q == nil {
				break
			}
		}
	}
	for _, e := range []api.Errno{api.OK, api.ErrDown, api.ErrEntry, api.ErrKnown, api.ErrNone, api.ErrFull} {
		if seen[e] < 300 {
			t.Errorf("error %d came %d times", e, seen[e])
		}
	}
}

// P19.4: on a disk that only queues have written to Sent, Done, Drop and New never answer ErrFull, and no key is put twice.
func TestNeverFull(t *testing.T) {
	r := rand.New(rand.NewSource(194))
	full := 0
	for range 1500 {
		b := fresh(t, 9+r.Intn(12))
		var keys []string
		for range 100 {
			if l := b.q.Entries(); len(l) > 0 && r.Intn(2) == 0 {
				op := pick(r, api.OpSent, api.OpDone, api.OpDrop)
				b.wantChange(op, l[r.Intn(len(l))].Id, api.OK)
				continue
			}
			e := sized("k"+strconv.Itoa(r.Intn(90)), 1+r.Intn(60))
			e.Custody = r.Intn(2) == 0
			switch wrong := b.put(e); {
			case wrong == api.ErrFull:
				full++
			case wrong == api.OK && slices.Contains(keys, e.Key):
				t.Errorf("%q was put twice", e.Key)
			case wrong == api.OK:
				keys = append(keys, e.Key)
			}
			if r.Intn(15) == 0 {
				b.again()
			}
		}
		if !slices.Equal(b.q.Keys(), keys) {
			t.Errorf("keys %q; put were %q", b.q.Keys(), keys)
		}
	}
	if full < 1000 {
		t.Errorf("there was no room %d times", full)
	}
}
