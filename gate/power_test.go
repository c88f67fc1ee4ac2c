package gate_test

import (
	"math/rand"
	"slices"
	"strings"
	"testing"

	"postrider/api"
	"postrider/seven"
	"postrider/six"
)

func pick[T any](r *rand.Rand, list ...T) T { return list[r.Intn(len(list))] }

// ledger is what was sent of each key, and when, of which gate.
type ledger struct {
	t     *testing.T
	sends map[string][]sending
	acks  map[string]bool
	gate  int
}

type sending struct{ gate, clock int }

func newLedger(t *testing.T) *ledger {
	return &ledger{t: t, sends: map[string][]sending{}, acks: map[string]bool{}}
}

// step does a step, and wants what is sent to be a bundle of that side, sent no more often than it may be.
func (l *ledger) step(b *both, side int, ok bool) api.Errno {
	l.t.Helper()
	ahead := b.g.Waiting(side)
	s, wrong := b.step(side, ok)
	if s == "" {
		return wrong
	}
	x, e := plainRead(side, s)
	key := x.key(side)
	if e != api.OK || !slices.ContainsFunc(ahead, func(e api.Entry) bool { return e.Key == key && e.Data == s }) {
		l.t.Fatalf("sent to %d: %x", side, s)
	}
	if n := len(l.sends[key]); n > 0 {
		last := l.sends[key][n-1]
		if !x.custody || last.gate == l.gate && b.m.clock < last.clock+10000 {
			l.t.Errorf("%q is sent at %d by gate %d; it was at %d by gate %d", key, b.m.clock, l.gate, last.clock, last.gate)
		}
	}
	if l.acks[key] {
		l.t.Errorf("%q is sent behind its Ack", key)
	}
	l.sends[key] = append(l.sends[key], sending{l.gate, b.m.clock})
	return wrong
}

func (l *ledger) ack(b *both, key string) api.Errno {
	l.t.Helper()
	wrong := b.ack(key)
	if wrong == api.OK {
		l.acks[key] = true
	}
	return wrong
}

// again makes a new gate on the same disk, with both links up.
func (l *ledger) again(b *both, now int) api.Errno {
	l.t.Helper()
	wrong := b.open(now)
	if wrong == api.OK {
		l.gate++
		b.connect()
	}
	return wrong
}

// call is one of a gate's calls that write on the disk.
type call func(b *both, l *ledger) api.Errno

// story are calls that all are OK.
func story() []call {
	in := func(side int, s string) call {
		return func(b *both, l *ledger) api.Errno { _, e := b.in(side, s); return e }
	}
	step := func(side int, ok bool) call {
		return func(b *both, l *ledger) api.Errno { return l.step(b, side, ok) }
	}
	ack := func(key string) call {
		return func(b *both, l *ledger) api.Errno { return l.ack(b, key) }
	}
	tick := func(n int) call {
		return func(b *both, l *ledger) api.Errno { return b.tick(n) }
	}
	one := sevenOf(func(x *api.Seven) { x.Seq = 1 })
	return []call{
		in(6, sixOf()), in(7, one), in(6, sixOf(asking, withSeq(2))), step(7, true), in(6, sixOf(withSeq(3))), step(7, true), step(7, false),
		in(6, sixOf(asking, withSeq(4), withLife(7))), step(6, true), step(7, true), ack(key(7, 2)), in(6, sixOf(withSeq(5), withLife(7))),
		in(6, sixOf(asking, withSeq(6), withDest("ipn:2.6"))), step(6, false), tick(12000), step(6, false), ack(key(6, 6)), in(6, sixOf(withSeq(7))), step(7, true),
	}
}

// upTo is a gate behind so many calls of the story, whose disk has so many sectors.
func upTo(t *testing.T, sectors int, n int) (*both, *ledger) {
	t.Helper()
	b, l := begun(t, sectors, usual(), 0), newLedger(t)
	b.connect()
	for _, do := range story()[:n] {
		b.wantErr(do(b, l), api.OK)
	}
	return b, l
}

// P20.5, T3 and T4: the power goes at each write of each call, cut at some places: what was begun to be sent without custody is not sent again but told, all else is sent.
func TestPower(t *testing.T) {
	seen := map[string]int{}
	for _, sectors := range []int{17, 40} {
		for n := range story() {
			for writes, went := 1, true; went; writes++ {
				for _, cut := range []int{0, 1, 13, 30, 63, 64} {
					b, l := upTo(t, sectors, n)
					b.arm(writes, cut)
					if went = story()[n](b, l) == api.ErrDown; !went {
						break
					}
					keys := b.g.Keys()
					b.restart()
					b.wantErr(l.again(b, b.m.clock), api.OK)
					seen[wantRest(b, l, keys)]++
				}
			}
		}
	}
	if seen["lost"] < 20 || seen["none lost"] < 100 {
		t.Errorf("behind power losses: %v", seen)
	}
}

// wantRest sends all that is left, with a second gate between, and tells whether something was lost.
func wantRest(b *both, l *ledger, keys []string) string {
	b.t.Helper()
	if known := b.g.Keys(); len(known) > len(keys)+1 || !slices.Equal(known[:len(keys)], keys) {
		b.t.Errorf("keys %q; ahead of the power loss %q", known, keys)
	}
	lost := b.g.Notices()
	for _, n := range lost {
		if n.Why != api.ErrLost || len(l.sends[n.Key]) > 1 {
			b.t.Errorf("%v; it was sent %v", n, l.sends[n.Key])
		}
	}
	left := append(b.g.Waiting(6), b.g.Waiting(7)...)
	for range 2 {
		for _, side := range []int{6, 7} {
			for len(b.g.Waiting(side)) > 0 && l.step(b, side, true) == api.OK {
			}
		}
		b.wantErr(l.again(b, b.m.clock), api.OK)
		b.wantNotices()
	}
	for _, e := range left {
		ofThese := len(slices.DeleteFunc(slices.Clone(l.sends[e.Key]), func(s sending) bool { return s.gate == 0 }))
		if e.Custody && ofThese != 2 || !e.Custody && (ofThese != 1 || len(l.sends[e.Key]) != 1) {
			b.t.Errorf("%q is sent %v", e.Key, l.sends[e.Key])
		}
	}
	if len(lost) > 0 {
		return "lost"
	}
	return "none lost"
}

// randomSix is a bundle that mostly goes over.
func randomSix(r *rand.Rand, clock int) string {
	x := api.Six{Flags: api.Single, Dest: named(pick(r, "ipn:2.1", "ipn:3.7", "ipn:2.6", "dtn://b/c", "ipn:2.9", "ipn:4.4")), Source: named(pick(r, "ipn:1.1", "ipn:1.1", "dtn://a/b", "ipn:9.1")), Seq: r.Intn(9)}
	x.Flags |= pick(r, 0, 0, api.Custody, api.Custody, api.Accepted, api.Received, api.Priority)
	x.Time, x.Life = clock/1000, pick(r, 1, 4, r.Intn(30), 60, 400)
	if r.Intn(9) == 0 {
		x.Flags, x.Off, x.Total = x.Flags|api.Fragment, r.Intn(3), 99
	}
	x.Blocks = []api.Block{{Type: api.Payload, Flags: api.Last, Data: strings.Repeat("d", r.Intn(pick(r, 3, 3, 90)))}}
	if r.Intn(9) == 0 {
		x.Blocks = append([]api.Block{{Type: pick(r, 207, 200, 192), Data: "e"}}, x.Blocks...)
	}
	s, _ := six.Encode(x)
	return s
}

// randomSeven is a bundle that mostly goes over.
func randomSeven(r *rand.Rand, clock int) string {
	x := api.Seven{Sum: pick(r, 2, 2, 2, 2, 1), Dest: named(pick(r, "ipn:3.1", "ipn:3.7", "ipn:2.6", "dtn://b/c", "ipn:4.4")), Source: named(pick(r, "ipn:1.1", "ipn:1.1", "dtn://a/b", "dtn://bad/x")), Seq: r.Intn(9)}
	x.Time, x.Life = clock/1000*1000+pick(r, 0, 0, 0, 0, r.Intn(1000)), 1000*pick(r, 1, 4, r.Intn(30), 60, 400)
	x.Blocks = []api.Block{{Type: api.Payload, Num: 1, Data: strings.Repeat("d", r.Intn(pick(r, 3, 3, 90)))}}
	switch r.Intn(6) {
	case 0, 1:
		extras(classData(api.Class{Priority: r.Intn(3), Custody: true}))(&x)
	case 2:
		extras(pick(r, "?", classData(api.Class{Priority: 1})))(&x)
	}
	s, _ := seven.Encode(x)
	return s
}

// randomIn takes a bundle, or what is none.
func randomIn(r *rand.Rand, b *both) api.Errno {
	b.t.Helper()
	side := pick(r, 6, 6, 6, 7, 7, 7, 6, 7, 6, 7, 5)
	s := randomSix(r, b.m.clock)
	if side == 7 {
		s = randomSeven(r, b.m.clock)
	}
	if r.Intn(15) == 0 {
		at := r.Intn(len(s) + 1)
		s = s[:at] + pick(r, "", "\x00", "x", string([]byte{byte(r.Intn(256))})) + s[min(at+r.Intn(2), len(s)):]
	}
	_, e := b.in(side, s)
	return e
}

// randomCall does one call of a gate.
func randomCall(r *rand.Rand, b *both, l *ledger) api.Errno {
	b.t.Helper()
	switch r.Intn(12) {
	case 0, 1, 2:
		return randomIn(r, b)
	case 3:
		return b.tick(pick(r, 0, 1, r.Intn(3000), r.Intn(3000), 9999, 10000, 10001, -1, api.MaxTick+1))
	case 4:
		return b.link(pick(r, 6, 7, 6, 7, 6, 7, 0), r.Intn(4) > 0)
	case 5:
		entries := b.m.queue.Entries()
		if len(entries) == 0 || r.Intn(9) == 0 {
			return l.ack(b, pick(r, "", key(7, 1), "k"))
		}
		return l.ack(b, entries[r.Intn(len(entries))].Key)
	}
	return l.step(b, pick(r, 6, 7, 6, 7, 6, 7, 5), r.Intn(3) > 0)
}

// randomRules are right.
func randomRules(r *rand.Rand) plainRules {
	if r.Intn(3) > 0 {
		return usual()
	}
	x := plainRules{policy: api.Policy{MaxSize: pick(r, 30, 60, 999), MaxLife: pick(r, 3000, 60000, 400000), Custody: r.Intn(4) > 0}}
	for range r.Intn(8) {
		x.routes = append(x.routes, api.Route{Prefix: pick(r, "", "ipn:", "ipn:2", "ipn:3.", "dtn", "ipn:3.7", "i"), Side: 6 + r.Intn(2)})
	}
	for range r.Intn(3) {
		x.policy.Deny = append(x.policy.Deny, pick(r, "ipn:1.", "ipn:4", "dtn:", "ipn:3.7"))
	}
	return x
}

// T1 and T4: random calls of gates on disks whose power goes at random, held against the reference, and against what may be sent.
func TestRandomCalls(t *testing.T) {
	r := rand.New(rand.NewSource(201))
	seen := map[api.Errno]int{}
	for range 1000 {
		b, l := begun(t, pick(r, 9, 12, 20, 60, 256), randomRules(r), pick(r, 0, 5000, r.Intn(1000000))), newLedger(t)
		b.connect()
		for range 80 {
			if r.Intn(15) == 0 {
				b.arm(1+r.Intn(8), r.Intn(65))
			}
			seen[randomCall(r, b, l)]++
			for again := b.d.IsDown() && r.Intn(3) > 0 || r.Intn(40) == 0; again; again = b.g == nil {
				now := 0
				if b.m != nil {
					now = b.m.clock
				}
				b.restart()
				if r.Intn(4) == 0 {
					b.arm(1+r.Intn(4), r.Intn(65))
				}
				l.again(b, now)
			}
		}
	}
	for _, e := range []api.Errno{api.OK, api.ErrArg, api.ErrSix, api.ErrSeven, api.ErrExpired, api.ErrDenied, api.ErrSize, api.ErrLife, api.ErrNoCustody, api.ErrRoute, api.ErrAccepted, api.ErrSum, api.ErrTime, api.ErrClass, api.ErrKnown, api.ErrFull, api.ErrDown, api.ErrNone, api.ErrLink} {
		if seen[e] < 50 {
			t.Errorf("error %d came %d times", e, seen[e])
		}
	}
}

// P20.5 and T5: what is ready is sent within as many steps as entries wait ahead of it, and one.
func TestLively(t *testing.T) {
	r := rand.New(rand.NewSource(205))
	most := 0
	for range 700 {
		b, l := begun(t, 256, usual(), 0), newLedger(t)
		b.connect()
		for range 30 {
			switch r.Intn(4) {
			case 0:
				l.step(b, 6+r.Intn(2), r.Intn(2) == 0)
			case 1:
				b.tick(r.Intn(6000))
			default:
				randomIn(r, b)
			}
		}
		side := 6 + r.Intn(2)
		waiting := b.m.waiting(side)
		last := -1
		for place, e := range waiting {
			if b.m.ready(e) {
				last = place
			}
		}
		if last < 0 {
			continue
		}
		ahead := len(l.sends[waiting[last].Key])
		for range last + 1 {
			l.step(b, side, r.Intn(2) == 0)
		}
		if len(l.sends[waiting[last].Key]) != ahead+1 {
			t.Errorf("%v is not sent in %d steps", waiting[last], last+1)
		}
		most = max(most, last)
	}
	if most < 8 {
		t.Errorf("at most %d waited ahead", most)
	}
}

// across is what a gate by some rules, whose clock is at 0, sends to the other side of a bundle, or nothing.
func across(t *testing.T, rules plainRules, side int, s string) string {
	t.Helper()
	b := begun(t, 60, rules, 0)
	b.connect()
	b.in(side, s)
	u, _ := b.step(13-side, true)
	return u
}

// T2: what goes over comes back just as it was, by a gate that sends it there; from both sides.
func TestThereAndBack(t *testing.T) {
	r := rand.New(rand.NewSource(202))
	policy := api.Policy{MaxSize: 5000, MaxLife: most, Custody: true}
	up, down := plainRules{[]api.Route{{Side: 7}}, policy}, plainRules{[]api.Route{{Side: 6}}, policy}
	went := map[int]int{}
	for range 1000 {
		for side, s := range map[int]string{6: randomSix(r, 5000), 7: randomSeven(r, 5000)} {
			there, back := up, down
			if side == 7 {
				there, back = down, up
			}
			u := across(t, there, side, s)
			if u == "" {
				continue
			}
			went[side]++
			if came := across(t, back, 13-side, u); came != s {
				t.Errorf("%x of version %d goes over to %x, and comes back as %x", s, side, u, came)
			}
		}
	}
	if went[6] < 300 || went[7] < 300 {
		t.Errorf("over went %v", went)
	}
}
