package gate_test

import (
	"fmt"
	"math"
	"slices"
	"strconv"
	"strings"
	"testing"
	"unsafe"

	"postrider/api"
	"postrider/disk"
	"postrider/eid"
	"postrider/ext"
	"postrider/frame"
	"postrider/gate"
	"postrider/queue"
	"postrider/seven"
	"postrider/six"
	"postrider/xlate"
)

func named(text string) api.Eid {
	e, wrong := eid.Parse(text)
	if wrong != api.OK {
		panic("no name: " + text)
	}
	return e
}

// sixOf are the bytes of a bundle of version 6: one from ipn:1.1 to ipn:2.1, of 20 bytes, that ends at 65000, but for what is edited.
func sixOf(edits ...func(*api.Six)) string {
	x := api.Six{Flags: api.Single, Dest: named("ipn:2.1"), Source: named("ipn:1.1"), Time: 5, Life: 60, Blocks: []api.Block{{Type: api.Payload, Flags: api.Last, Data: "hi"}}}
	for _, edit := range edits {
		edit(&x)
	}
	s, wrong := six.Encode(x)
	if wrong != api.OK {
		panic(fmt.Sprintf("no bundle: %#v", x))
	}
	return s
}

// sevenOf are the bytes of a bundle of version 7, to ipn:3.1, alike.
func sevenOf(edits ...func(*api.Seven)) string {
	x := api.Seven{Sum: api.Sum32, Dest: named("ipn:3.1"), Source: named("ipn:1.1"), Time: 5000, Life: 60000, Blocks: []api.Block{{Type: api.Payload, Num: 1, Data: "hi"}}}
	for _, edit := range edits {
		edit(&x)
	}
	s, wrong := seven.Encode(x)
	if wrong != api.OK {
		panic(fmt.Sprintf("no bundle: %#v", x))
	}
	return s
}

// What bundles may be edited by.
func withSeq(n int) func(*api.Six)       { return func(x *api.Six) { x.Seq = n } }
func withLife(n int) func(*api.Six)      { return func(x *api.Six) { x.Life = n } }
func withTime(n int) func(*api.Six)      { return func(x *api.Six) { x.Time = n } }
func withDest(s string) func(*api.Six)   { return func(x *api.Six) { x.Dest = named(s) } }
func withSource(s string) func(*api.Six) { return func(x *api.Six) { x.Source = named(s) } }
func withData(s string) func(*api.Six) {
	return func(x *api.Six) { x.Blocks[len(x.Blocks)-1].Data = s }
}
func asking(x *api.Six)    { x.Flags |= api.Custody }
func accepting(x *api.Six) { x.Flags |= api.Accepted }

// anonymous is of none, and so must be whole.
func anonymous(x *api.Six) { x.Source, x.Flags = api.Eid{}, x.Flags|api.Whole }

// part is the part of a bundle from a place on.
func part(off int) func(*api.Six) {
	return func(x *api.Six) { x.Flags, x.Off, x.Total = x.Flags|api.Fragment, off, most }
}

// extras lays a block of the type 192 with such data ahead of all.
func extras(data string) func(*api.Seven) {
	return func(x *api.Seven) {
		x.Blocks = append([]api.Block{{Type: api.Extras, Num: 2, Data: data}}, x.Blocks...)
	}
}

func classData(c api.Class) string {
	s, wrong := ext.Data(c)
	if wrong != api.OK {
		panic(fmt.Sprint("no class: ", c))
	}
	return s
}

// over are the bytes of the other version.
func over(side int, s string) string {
	u, wrong := xlate.Over(side, s)
	if wrong != api.OK {
		panic(fmt.Sprintf("%q does not go over", s))
	}
	return u
}

// usual are rules by which most bundles go to the other side.
func usual() plainRules {
	return plainRules{
		[]api.Route{{Prefix: "ipn:2", Side: 7}, {Prefix: "ipn:3", Side: 6}, {Prefix: "dtn://b", Side: 7}, {Prefix: "ipn:3.7", Side: 7}, {Prefix: "ipn:2.6", Side: 6}},
		api.Policy{MaxSize: 5000, MaxLife: most, Deny: []string{"ipn:9", "dtn://bad/"}, Custody: true},
	}
}

// both is a gate on a disk, and the reference on another one.
type both struct {
	t     *testing.T
	d     *disk.Disk
	p     *disk.Disk
	rules plainRules
	g     *gate.Gate
	m     *plain
}

func newDisk(t *testing.T, sectors int) *disk.Disk {
	t.Helper()
	d, wrong := disk.New(sectors)
	if wrong != api.OK {
		t.Fatalf("disk.New(%d): %d", sectors, wrong)
	}
	return d
}

// unbegun are disks of so many sectors, with no gate yet.
func unbegun(t *testing.T, sectors int, rules plainRules) *both {
	t.Helper()
	return &both{t: t, d: newDisk(t, sectors), p: newDisk(t, sectors), rules: rules}
}

// begun is a gate on a new disk, whose clock is at now.
func begun(t *testing.T, sectors int, rules plainRules, now int) *both {
	t.Helper()
	b := unbegun(t, sectors, rules)
	b.wantErr(b.open(now), api.OK)
	return b
}

// fresh is a gate by the usual rules on a new disk, whose clock is at 0, with both links up.
func fresh(t *testing.T) *both {
	t.Helper()
	b := begun(t, 256, usual(), 0)
	b.connect()
	return b
}

func (b *both) connect() {
	b.t.Helper()
	b.wantErr(b.link(6, true), api.OK)
	b.wantErr(b.link(7, true), api.OK)
}

// open makes a new gate on the same disk.
func (b *both) open(now int) api.Errno {
	b.t.Helper()
	m, want := plainNew(b.p, b.rules, now)
	g, wrong := gate.New(b.d, b.rules.routes, b.rules.policy, now)
	if wrong != want || (g == nil) != (m == nil) {
		b.t.Fatalf("New: %p, %d; wanted %p, %d", g, wrong, m, want)
	}
	b.g, b.m = g, m
	if g != nil {
		b.wantSame()
	}
	return wrong
}

func (b *both) arm(writes int, cut int) {
	b.d.Arm(writes, cut)
	b.p.Arm(writes, cut)
}

func (b *both) restart() {
	b.d.Restart()
	b.p.Restart()
}

// lay writes on both disks, from the second sector on, what a queue does not.
func (b *both) lay(records ...api.Rec) {
	b.t.Helper()
	s, wrong := frame.Lay(records)
	if wrong != api.OK {
		b.t.Fatalf("frame.Lay: %d", wrong)
	}
	for i := 0; i < len(s); i += 64 {
		sector := (s[i:] + strings.Repeat("\x00", 64))[:64]
		b.d.Write(1+i/64, sector)
		b.p.Write(1+i/64, sector)
	}
}

func (b *both) in(side int, s string) (int, api.Errno) {
	b.t.Helper()
	n, want := b.m.in(side, s)
	id, wrong := b.g.In(side, s)
	if id != n || wrong != want {
		b.t.Errorf("In(%d, %x): %d %d; wanted %d %d", side, s, id, wrong, n, want)
	}
	b.wantSame()
	return id, wrong
}

func (b *both) tick(n int) api.Errno {
	b.t.Helper()
	want := b.m.tick(n)
	wrong := b.g.Tick(n)
	if wrong != want {
		b.t.Errorf("Tick(%d): %d; wanted %d", n, wrong, want)
	}
	b.wantSame()
	return wrong
}

func (b *both) link(side int, up bool) api.Errno {
	b.t.Helper()
	want := b.m.link(side, up)
	wrong := b.g.Link(side, up)
	if wrong != want {
		b.t.Errorf("Link(%d, %t): %d; wanted %d", side, up, wrong, want)
	}
	b.wantSame()
	return wrong
}

func (b *both) step(side int, ok bool) (string, api.Errno) {
	b.t.Helper()
	u, want := b.m.step(side, ok)
	s, wrong := b.g.Step(side, ok)
	if s != u || wrong != want {
		b.t.Errorf("Step(%d, %t): %x %d; wanted %x %d", side, ok, s, wrong, u, want)
	}
	b.wantSame()
	return s, wrong
}

func (b *both) ack(key string) api.Errno {
	b.t.Helper()
	want := b.m.ack(key)
	wrong := b.g.Ack(key)
	if wrong != want {
		b.t.Errorf("Ack(%q): %d; wanted %d", key, wrong, want)
	}
	b.wantSame()
	return wrong
}

func (b *both) wantErr(wrong api.Errno, want api.Errno) {
	b.t.Helper()
	if wrong != want {
		b.t.Errorf("error %d, wanted %d", wrong, want)
	}
}

// wantIn wants an Id, or an error.
func (b *both) wantIn(side int, s string, want int, wrong api.Errno) {
	b.t.Helper()
	if id, e := b.in(side, s); id != want || e != wrong {
		b.t.Errorf("In(%d, %x): %d %d; wanted %d %d", side, s, id, e, want, wrong)
	}
}

func (b *both) wantStep(side int, ok bool, want string, wrong api.Errno) {
	b.t.Helper()
	if s, e := b.step(side, ok); s != want || e != wrong {
		b.t.Errorf("Step(%d, %t): %x %d; wanted %x %d", side, ok, s, e, want, wrong)
	}
}

// wantKeys wants those of the entries that go to a side.
func (b *both) wantKeys(side int, want ...string) {
	b.t.Helper()
	var keys []string
	for _, e := range b.g.Waiting(side) {
		keys = append(keys, e.Key)
	}
	if !slices.Equal(keys, want) {
		b.t.Errorf("to %d go %q, wanted %q", side, keys, want)
	}
}

func (b *both) wantNotices(want ...api.Notice) {
	b.t.Helper()
	if l := b.g.Notices(); !slices.Equal(l, want) {
		b.t.Errorf("notices %v, wanted %v", l, want)
	}
}

// told is all that a gate tells.
type told struct {
	clock   int
	six     []api.Entry
	seven   []api.Entry
	keys    []string
	notices []api.Notice
}

func toldBy(g *gate.Gate) told {
	return told{g.Clock(), g.Waiting(6), g.Waiting(7), g.Keys(), g.Notices()}
}

func (x told) same(y told) bool {
	return x.clock == y.clock && slices.Equal(x.six, y.six) && slices.Equal(x.seven, y.seven) && slices.Equal(x.keys, y.keys) && slices.Equal(x.notices, y.notices)
}

// image are a disk's bytes, or whatever it tells if it is down.
func image(d *disk.Disk) string {
	s, _ := d.Bytes(0, 64*d.Sectors())
	return s
}

// wantSame wants of the gate, and its disk, what the reference tells.
func (b *both) wantSame() {
	b.t.Helper()
	want := told{b.m.clock, b.m.waiting(6), b.m.waiting(7), b.m.queue.Keys(), b.m.notices}
	if got := toldBy(b.g); !got.same(want) {
		b.t.Errorf("the gate tells %v; wanted %v", got, want)
	}
	if b.d.IsDown() != b.p.IsDown() || b.d.Writes() != b.p.Writes() || image(b.d) != image(b.p) {
		b.t.Errorf("%d writes, down: %t; wanted %d, %t, and the same bytes", b.d.Writes(), b.d.IsDown(), b.p.Writes(), b.p.IsDown())
	}
}

// key is one of a bundle from ipn:1.1 of the time 5000 that goes to a side.
func key(side int, seq int) string {
	return strconv.Itoa(side) + " ipn:1.1 5000 " + strconv.Itoa(seq) + " 0"
}

func notice(key string, why api.Errno) api.Notice { return api.Notice{Key: key, Why: why} }

// The chapter's examples.
func TestExamples(t *testing.T) {
	d := newDisk(t, 80)
	g, wrong := gate.New(d, []api.Route{{Prefix: "ipn:2", Side: 7}}, api.Policy{MaxSize: 20, MaxLife: 60000}, 0)
	if g == nil || wrong != api.OK {
		t.Fatalf("New: %p, %d", g, wrong)
	}
	s := sixOf()
	if id, e := g.In(6, s); id != 1 || e != api.OK {
		t.Errorf("In: %d %d", id, e)
	}
	if e := g.Link(7, true); e != api.OK {
		t.Errorf("Link: %d", e)
	}
	if u, e := g.Step(7, true); u != over(6, s) || e != api.OK {
		t.Errorf("Step: %x %d", u, e)
	}
	if u, e := g.Step(7, true); u != "" || e != api.ErrNone {
		t.Errorf("Step: %x %d", u, e)
	}
	if id, e := g.In(6, s); id != 0 || e != api.ErrKnown {
		t.Errorf("In: %d %d", id, e)
	}
}

// P20.1: what is wrong is told in order: routes and policy, the clock, the queue.
func TestNewErrors(t *testing.T) {
	good := api.Policy{}
	many := slices.Repeat([]api.Route{{Side: 6}}, 21)
	small, down, right := newDisk(t, 8), newDisk(t, 20), newDisk(t, 9)
	down.Arm(1, 0)
	down.Write(0, strings.Repeat("a", 64))
	for i, x := range []struct {
		d      *disk.Disk
		routes []api.Route
		policy api.Policy
		now    int
		want   api.Errno
	}{
		{nil, []api.Route{{Side: 5}}, good, -1, api.ErrRoutes},
		{down, many, good, most + 1, api.ErrRoutes},
		{small, []api.Route{{Side: 6}, {Prefix: strings.Repeat("p", 61), Side: 7}}, good, 0, api.ErrRoutes},
		{right, []api.Route{{}}, good, 0, api.ErrRoutes},
		{nil, nil, api.Policy{MaxSize: -1}, -1, api.ErrRoutes},
		{right, nil, api.Policy{MaxLife: -1}, 0, api.ErrRoutes},
		{right, nil, api.Policy{Deny: []string{""}}, 0, api.ErrRoutes},
		{right, nil, api.Policy{Deny: slices.Repeat([]string{"a"}, 21)}, 0, api.ErrRoutes},
		{nil, nil, good, -1, api.ErrArg},
		{down, nil, good, most + 1, api.ErrArg},
		{small, nil, good, math.MinInt, api.ErrArg},
		{right, nil, good, math.MaxInt, api.ErrArg},
		{right, nil, good, -1, api.ErrArg},
		{right, nil, good, most + 1, api.ErrArg},
		{nil, nil, good, 0, api.ErrNil},
		{down, nil, good, 0, api.ErrDown},
		{small, nil, good, 0, api.ErrSmall},
	} {
		if g, e := gate.New(x.d, x.routes, x.policy, x.now); g != nil || e != x.want {
			t.Errorf("%d: %p, %d; wanted %d", i, g, e, x.want)
		}
	}
	if right.Writes() != 0 {
		t.Errorf("%d writes", right.Writes())
	}
	if g, e := gate.New(right, many[:20], api.Policy{MaxSize: math.MaxInt, Deny: slices.Repeat([]string{"a"}, 20)}, most); g == nil || e != api.OK || g.Clock() != most {
		t.Errorf("New: %p, %d", g, e)
	}
}

// laid is a record that lets an entry wait, and asks for custody or not.
func laid(id int, side int, key string, data string, due byte) api.Rec {
	return api.Rec{Op: api.OpPut, Id: id, Data: string([]byte{byte(side), 0, 0, 0, 0, 0, due, byte(len(key))}) + key + data}
}

// P20.1: a new gate tells what the queue does, and of what is lost; its links are not up.
func TestNew(t *testing.T) {
	b := unbegun(t, 100, usual())
	b.lay(
		laid(1, 7, "lost", "a", 9),
		laid(2, 6, "waits", "b", 9),
		laid(3, 7+128, "open", "c", 9),
		laid(5, 6, "gone", "d", 9),
		laid(6, 6, "lost too", "e", 9),
		laid(7, 7, "waits too", "f", 0),
		api.Rec{Op: api.OpSent, Id: 3}, api.Rec{Op: api.OpSent, Id: 6}, api.Rec{Op: api.OpSent, Id: 1}, api.Rec{Op: api.OpDone, Id: 5},
	)
	b.wantErr(b.open(1234), api.OK)
	if b.g.Clock() != 1234 {
		t.Errorf("the clock is at %d", b.g.Clock())
	}
	b.wantNotices(notice("lost", api.ErrLost), notice("lost too", api.ErrLost))
	if l := b.g.Waiting(6); !slices.Equal(l, []api.Entry{{Id: 2, Side: 6, Key: "waits", Data: "b", Due: 9}}) {
		t.Errorf("to 6 go %v", l)
	}
	if l := b.g.Waiting(7); !slices.Equal(l, []api.Entry{{Id: 3, Side: 7, Key: "open", Data: "c", Due: 9, Custody: true, Sent: true}, {Id: 7, Side: 7, Key: "waits too", Data: "f"}}) {
		t.Errorf("to 7 go %v", l)
	}
	for _, side := range []int{math.MinInt, -6, 0, 5, 8, 13, 6 + 256, 7 + 1<<32, math.MaxInt} {
		if l := b.g.Waiting(side); len(l) != 0 {
			t.Errorf("to %d go %v", side, l)
		}
	}
	if l := b.g.Keys(); !slices.Equal(l, []string{"lost", "waits", "open", "gone", "lost too", "waits too"}) {
		t.Errorf("keys %q", l)
	}
	b.wantStep(6, true, "", api.ErrLink)
	b.wantStep(7, true, "", api.ErrLink)
	// What has ended waits till time passes, and is sent, if a link is up.
	b.connect()
	b.wantStep(7, true, "c", api.OK)
	b.wantStep(6, true, "b", api.OK)
	b.wantErr(b.tick(0), api.OK)
	b.wantNotices(notice("lost", api.ErrLost), notice("lost too", api.ErrLost), notice("open", api.ErrExpired), notice("waits too", api.ErrExpired))
	// All is told once.
	b.wantErr(b.open(0), api.OK)
	b.wantNotices()
}

// P20.1: the queue's error while it tells what is lost.
func TestNewFails(t *testing.T) {
	b := unbegun(t, 100, usual())
	b.lay(laid(1, 7, "lost", "a", 9), api.Rec{Op: api.OpSent, Id: 1})
	b.arm(1, 0)
	b.wantErr(b.open(0), api.ErrDown)
	b.wantErr(b.open(0), api.ErrDown)
	b.restart()
	b.wantErr(b.open(0), api.OK)
	b.wantNotices(notice("lost", api.ErrLost))
	b = unbegun(t, 9, usual())
	b.lay(laid(1, 7, "lost", strings.Repeat("a", 242-14-8-4-14), 9), api.Rec{Op: api.OpSent, Id: 1})
	b.wantErr(b.open(0), api.ErrFull)
}

// P20.1: a nil gate, and one that New did not give.
func TestNilGate(t *testing.T) {
	for _, g := range []*gate.Gate{nil, new(gate.Gate)} {
		for _, side := range []int{6, 7, 5} {
			if id, e := g.In(side, sixOf()); id != 0 || e != api.ErrNil {
				t.Errorf("In: %d %d", id, e)
			}
			if s, e := g.Step(side, true); s != "" || e != api.ErrNil {
				t.Errorf("Step: %q %d", s, e)
			}
			if e := g.Link(side, true); e != api.ErrNil {
				t.Errorf("Link: %d", e)
			}
			if l := g.Waiting(side); len(l) != 0 {
				t.Errorf("Waiting: %v", l)
			}
		}
		for _, n := range []int{-1, 0, 1, math.MaxInt} {
			if e := g.Tick(n); e != api.ErrNil {
				t.Errorf("Tick(%d): %d", n, e)
			}
		}
		if e := g.Ack(""); e != api.ErrNil {
			t.Errorf("Ack: %d", e)
		}
		if g.Clock() != 0 || len(g.Keys()) != 0 || len(g.Notices()) != 0 {
			t.Errorf("it tells %d, %q, %v", g.Clock(), g.Keys(), g.Notices())
		}
	}
}

// P20.1: all answers are new memory.
func TestNewMemory(t *testing.T) {
	b := fresh(t)
	for i := range 5 {
		b.wantIn(6, sixOf(withSeq(i)), i+1, api.OK)
	}
	b.wantStep(7, false, over(6, sixOf()), api.OK)
	b.wantStep(7, false, over(6, sixOf(withSeq(1))), api.OK)
	b.wantStep(7, false, over(6, sixOf(withSeq(2))), api.OK)
	want := toldBy(b.g)
	for range 2 {
		for _, l := range [][]api.Entry{b.g.Waiting(7), b.g.Waiting(7)} {
			l[0] = api.Entry{}
			_ = append(l, api.Entry{Id: 99})
			clear(l[:cap(l)])
		}
		for _, l := range [][]api.Notice{b.g.Notices(), b.g.Notices()} {
			l[0] = api.Notice{}
			clear(l[:cap(l)])
		}
		for _, l := range [][]string{b.g.Keys(), b.g.Keys()} {
			l[0] = "other"
			clear(l[:cap(l)])
		}
		if got := toldBy(b.g); !got.same(want) {
			t.Errorf("the gate tells %v; wanted %v", got, want)
		}
	}
	b.wantStep(7, false, over(6, sixOf(withSeq(3))), api.OK)
	b.wantSame()
}

// changeable is a text whose bytes a caller may write over later on.
func changeable(s string) (string, []byte) {
	b := []byte(s)
	return unsafe.String(unsafe.SliceData(b), len(b)), b
}

// P20.1 and P20.2: nothing that is handed in is kept, or written into.
func TestNotKept(t *testing.T) {
	prefix, p := changeable("ipn:2")
	denied, q := changeable("ipn:9")
	routes := make([]api.Route, 1, 4)
	routes[0] = api.Route{Prefix: prefix, Side: 6}
	deny := make([]string, 1, 4)
	deny[0] = denied
	d := newDisk(t, 80)
	g, e := gate.New(d, routes, api.Policy{MaxSize: 99, MaxLife: 60000, Deny: deny, Custody: true}, 0)
	if e != api.OK || routes[:2][1] != (api.Route{}) || deny[:2][1] != "" {
		t.Fatalf("New: %d, %v, %q", e, routes[:2], deny[:2])
	}
	copy(p, "dtn:x")
	copy(q, "ipn:1")
	routes[0].Side = 7
	deny[0] = "ipn:2"
	for i, ask := range []func(*api.Six){func(x *api.Six) {}, asking} {
		s, bytes := changeable(sixOf(withSeq(i), ask))
		if id, e := g.In(6, s); id != i+1 || e != api.OK {
			t.Fatalf("In: %d %d", id, e)
		}
		clear(bytes)
	}
	if _, e := g.In(6, sixOf(withSource("ipn:9.1"))); e != api.ErrDenied {
		t.Errorf("In: %d", e)
	}
	want := []api.Entry{{Id: 1, Side: 6, Key: key(6, 0), Data: sixOf(), Due: 65000}, {Id: 2, Side: 6, Key: key(6, 1), Data: sixOf(withSeq(1), asking), Due: 65000, Custody: true}}
	if l := g.Waiting(6); !slices.Equal(l, want) {
		t.Errorf("to 6 go %v", l)
	}
	g.Link(6, true)
	g.Step(6, false)
	g.Step(6, false)
	asked, bytes := changeable(key(6, 1))
	if e := g.Ack(asked); e != api.OK {
		t.Errorf("Ack: %d", e)
	}
	clear(bytes)
	if l := g.Keys(); !slices.Equal(l, []string{key(6, 0), key(6, 1)}) {
		t.Errorf("keys %q", l)
	}
	if l := g.Notices(); !slices.Equal(l, []api.Notice{{Key: key(6, 0), Why: api.ErrLink}}) {
		t.Errorf("notices %v", l)
	}
}

// P20.2: what waits of bundles of both versions, that go to both.
func TestIn(t *testing.T) {
	custody := classData(api.Class{Custody: true})
	odd := func(x *api.Seven) { x.Time, x.Life, x.Seq, x.Dest = 1, most-2, most, named("ipn:3.7") }
	toSeven := func(x *api.Seven) { x.Dest = named("ipn:3.70") }
	longest := "dtn://abcdefghijklmnopqrst/abcdefghijklmnopqrst"
	for i, x := range []struct {
		side int
		s    string
		want api.Entry
	}{
		{6, sixOf(), api.Entry{Side: 7, Key: "7 ipn:1.1 5000 0 0", Data: over(6, sixOf()), Due: 65000}},
		{6, sixOf(asking), api.Entry{Side: 7, Key: "7 ipn:1.1 5000 0 0", Data: over(6, sixOf(asking)), Due: 65000, Custody: true}},
		{6, sixOf(withDest("ipn:2.6")), api.Entry{Side: 6, Key: "6 ipn:1.1 5000 0 0", Data: sixOf(withDest("ipn:2.6")), Due: 65000}},
		{6, sixOf(withDest("ipn:2.6"), accepting, asking), api.Entry{Side: 6, Key: "6 ipn:1.1 5000 0 0", Data: sixOf(withDest("ipn:2.6"), accepting, asking), Due: 65000, Custody: true}},
		{6, sixOf(withDest("ipn:3.0"), func(x *api.Six) { x.Flags = 0 }), api.Entry{Side: 6, Key: "6 ipn:1.1 5000 0 0", Data: sixOf(withDest("ipn:3.0"), func(x *api.Six) { x.Flags = 0 }), Due: 65000}},
		{6, sixOf(withSource("dtn://a/b"), withDest("dtn://b/"), withSeq(7)), api.Entry{Side: 7, Key: "7 dtn://a/b 5000 7 0", Data: over(6, sixOf(withSource("dtn://a/b"), withDest("dtn://b/"), withSeq(7))), Due: 65000}},
		{6, sixOf(anonymous, withTime(0), withLife(1)), api.Entry{Side: 7, Key: "7 dtn:none 0 0 0", Data: over(6, sixOf(anonymous, withTime(0), withLife(1))), Due: 1000}},
		{6, sixOf(part(3)), api.Entry{Side: 7, Key: "7 ipn:1.1 5000 0 3", Data: over(6, sixOf(part(3))), Due: 65000}},
		{6, sixOf(part(most-2), withSource(longest), withTime(api.MaxTime), withLife(0), withSeq(most)), api.Entry{Side: 7, Key: "7 " + longest + " 281474976710000 281474976710655 281474976710653", Data: over(6, sixOf(part(most-2), withSource(longest), withTime(api.MaxTime), withLife(0), withSeq(most))), Due: 281474976710000}},
		{7, sevenOf(), api.Entry{Side: 6, Key: "6 ipn:1.1 5000 0 0", Data: over(7, sevenOf()), Due: 65000}},
		{7, sevenOf(extras(custody)), api.Entry{Side: 6, Key: "6 ipn:1.1 5000 0 0", Data: over(7, sevenOf(extras(custody))), Due: 65000, Custody: true}},
		{7, sevenOf(odd), api.Entry{Side: 7, Key: "7 ipn:1.1 1 281474976710655 0", Data: sevenOf(odd), Due: most - 1}},
		{7, sevenOf(toSeven, extras(custody)), api.Entry{Side: 7, Key: "7 ipn:1.1 5000 0 0", Data: sevenOf(toSeven, extras(custody)), Due: 65000, Custody: true}},
	} {
		b := fresh(t)
		b.wantIn(x.side, x.s, 1, api.OK)
		x.want.Id = 1
		if l := append(b.g.Waiting(6), b.g.Waiting(7)...); len(l) != 1 || l[0] != x.want {
			t.Errorf("%d: there wait %v, wanted %v", i, l, x.want)
		}
		if l := b.g.Keys(); len(l) != 1 || l[0] != x.want.Key {
			t.Errorf("%d: keys %q", i, l)
		}
		b.wantNotices()
		b.wantStep(x.want.Side, true, x.want.Data, api.OK)
	}
}

// P20.2: which bundles of version 7 ask for custody.
func TestCustodyOfSeven(t *testing.T) {
	plain := classData(api.Class{})
	urgent := classData(api.Class{Priority: 2})
	asked := classData(api.Class{Priority: 1, Custody: true, Custodian: named("ipn:9.1")})
	far := func(x *api.Seven) { x.Dest = named("ipn:3.7") }
	behind := func(x *api.Seven) {
		x.Blocks = append([]api.Block{{Type: 200, Num: 9, Data: "x"}, {Type: api.Extras, Num: 7, Flags: api.Copied, Sum: api.Sum16, Data: asked}}, x.Blocks...)
	}
	other := func(x *api.Seven) {
		x.Blocks = append([]api.Block{{Type: 193, Num: 2, Data: asked}}, x.Blocks...)
	}
	inLoad := func(x *api.Seven) { x.Blocks[0].Data = asked }
	for i, x := range []struct {
		edits []func(*api.Seven)
		want  bool
	}{
		{nil, false},
		{[]func(*api.Seven){extras(asked)}, true},
		{[]func(*api.Seven){extras(urgent)}, false},
		{[]func(*api.Seven){extras(plain)}, false},
		{[]func(*api.Seven){extras("")}, false},
		{[]func(*api.Seven){extras(asked + "\x00")}, false},
		{[]func(*api.Seven){extras(asked[:len(asked)-1])}, false},
		{[]func(*api.Seven){extras("\x83\x03\x01\x82\x01\x00")}, false},
		{[]func(*api.Seven){extras("\x83\x00\x02\x82\x01\x00")}, false},
		{[]func(*api.Seven){behind}, true},
		{[]func(*api.Seven){other}, false},
		{[]func(*api.Seven){inLoad}, false},
	} {
		b := fresh(t)
		s := sevenOf(append(x.edits, far)...)
		b.wantIn(7, s, 1, api.OK)
		if l := b.g.Waiting(7); len(l) != 1 || l[0].Custody != x.want {
			t.Errorf("%d: there wait %v", i, l)
		}
		b = begun(t, 80, plainRules{usual().routes, api.Policy{MaxSize: 999, MaxLife: 60000}}, 0)
		want := api.OK
		if x.want {
			want = api.ErrNoCustody
		}
		if _, e := b.in(7, s); e != want {
			t.Errorf("%d: error %d, wanted %d", i, e, want)
		}
	}
}

// P20.2: of several errors the first one is told.
func TestInOrder(t *testing.T) {
	rules := plainRules{
		[]api.Route{{Prefix: "ipn:2", Side: 7}},
		api.Policy{MaxSize: 30, MaxLife: 60000, Deny: []string{"ipn:9"}},
	}
	worst := []func(*api.Six){withDest("ipn:4.4"), withSource("ipn:9.1"), withData("more than there may be"), withTime(0), withLife(61), asking, accepting, withSeq(1)}
	behind := func(edits ...func(*api.Six)) string { return sixOf(append(worst, edits...)...) }
	calm := func(x *api.Six) { x.Flags &^= api.Custody }
	simple := func(x *api.Six) { x.Flags = api.Single }
	for i, x := range []struct {
		now  int
		side int
		s    string
		want api.Errno
	}{
		{61000, 5, "", api.ErrArg},
		{61000, 8, behind(), api.ErrArg},
		{61000, 6, "", api.ErrSix},
		{61000, 6, behind() + "\x00", api.ErrSix},
		{61000, 6, sevenOf(), api.ErrSix},
		{61000, 7, "", api.ErrSeven},
		{61000, 7, behind(), api.ErrSeven},
		{61000, 6, behind(), api.ErrExpired},
		{60999, 6, behind(), api.ErrDenied},
		{60999, 6, behind(withSource("ipn:8.1")), api.ErrSize},
		{60999, 6, behind(withSource("ipn:8.1"), withData("hi")), api.ErrLife},
		{59999, 6, behind(withSource("ipn:8.1"), withData("hi"), withLife(60)), api.ErrNoCustody},
		{59999, 6, behind(withSource("ipn:8.1"), withData("hi"), withLife(60), calm), api.ErrRoute},
		{59999, 6, behind(withSource("ipn:8.1"), withData("hi"), withLife(60), calm, withDest("ipn:2.4")), api.ErrAccepted},
		{59999, 6, behind(withSource("ipn:8.1"), withData("hi"), withLife(60), simple, withDest("ipn:2.4")), api.OK},
	} {
		for _, going := range []bool{false, true} {
			b := begun(t, 80, rules, x.now)
			want := x.want
			if going {
				b.in(6, behind(withSource("ipn:8.1"), withData("hi"), withLife(60), simple, withDest("ipn:2.3")))
				b.arm(1, 9)
				b.in(6, sixOf(withTime(2), withLife(60)))
				if want == api.OK {
					want = api.ErrDown
				}
			}
			if _, e := b.in(x.side, x.s); e != want {
				t.Errorf("%d: error %d, wanted %d", i, e, want)
			}
		}
	}
}

// P20.2: what the policy does not let pass: names, bytes as they came in, thousandths.
func TestPolicy(t *testing.T) {
	with := func(p api.Policy) *both { return begun(t, 80, plainRules{usual().routes, p}, 0) }
	s, v := sixOf(), sevenOf()
	for i, x := range []struct {
		p    api.Policy
		side int
		s    string
		want api.Errno
	}{
		{api.Policy{MaxSize: len(s), MaxLife: 60000}, 6, s, api.OK},
		{api.Policy{MaxSize: len(s) - 1, MaxLife: 60000}, 6, s, api.ErrSize},
		{api.Policy{MaxSize: len(s), MaxLife: 59999}, 6, s, api.ErrLife},
		{api.Policy{MaxSize: len(v), MaxLife: 60000}, 7, v, api.OK},
		{api.Policy{MaxSize: len(v) - 1, MaxLife: 60000}, 7, v, api.ErrSize},
		{api.Policy{MaxSize: len(v), MaxLife: 59999}, 7, v, api.ErrLife},
		{api.Policy{MaxSize: 99, MaxLife: 60000, Deny: []string{"ipn:2.1"}}, 6, s, api.ErrDenied},
		{api.Policy{MaxSize: 99, MaxLife: 60000, Deny: []string{"dtn", "ipn:1.1"}}, 6, s, api.ErrDenied},
		{api.Policy{MaxSize: 99, MaxLife: 60000, Deny: []string{"ipn:3.1"}}, 7, v, api.ErrDenied},
		{api.Policy{MaxSize: 99, MaxLife: 60000, Deny: []string{"ipn:1"}}, 7, v, api.ErrDenied},
		{api.Policy{MaxSize: 99, MaxLife: 60000, Deny: []string{"dtn:none", "ipn:2.10", "ipn:11"}}, 6, s, api.OK},
		{api.Policy{MaxSize: 99, MaxLife: 60000, Deny: []string{"ipn:7"}, Custody: true}, 6, sixOf(asking, func(x *api.Six) { x.Report, x.Custodian = named("ipn:7.1"), named("ipn:7.2") }), api.OK},
		{api.Policy{MaxSize: 99, MaxLife: 60000}, 6, sixOf(asking), api.ErrNoCustody},
	} {
		if _, e := with(x.p).in(x.side, x.s); e != x.want {
			t.Errorf("%d: error %d, wanted %d", i, e, x.want)
		}
	}
}

// P20.2: a bundle ends at its time and its life, together, and is late from there on.
func TestExpired(t *testing.T) {
	v := sevenOf(func(x *api.Seven) { x.Time, x.Life, x.Dest = 5001, 7, named("ipn:3.7") })
	for _, x := range []struct {
		now  int
		side int
		s    string
		want api.Errno
	}{
		{64999, 6, sixOf(), api.OK},
		{65000, 6, sixOf(), api.ErrExpired},
		{65001, 6, sixOf(), api.ErrExpired},
		{most, 6, sixOf(), api.ErrExpired},
		{5007, 7, v, api.OK},
		{5008, 7, v, api.ErrExpired},
		{0, 6, sixOf(withTime(0), withLife(0)), api.ErrExpired},
		{0, 6, sixOf(withTime(1), withLife(0)), api.OK},
		{999, 6, sixOf(withTime(0), withLife(1)), api.OK},
		{1000, 6, sixOf(withTime(0), withLife(1)), api.ErrExpired},
	} {
		b := begun(t, 80, usual(), x.now)
		if _, e := b.in(x.side, x.s); e != x.want {
			t.Errorf("at %d: error %d, wanted %d", x.now, e, x.want)
		}
	}
	b := begun(t, 80, usual(), 0)
	b.wantErr(b.tick(64999), api.OK)
	b.wantIn(6, sixOf(), 1, api.OK)
	b.wantErr(b.tick(1), api.OK)
	b.wantIn(6, sixOf(), 0, api.ErrExpired)
	b.wantIn(6, sixOf(withSeq(1)), 0, api.ErrExpired)
	b.wantIn(6, sixOf(withSeq(1), withTime(6)), 2, api.OK)
}

// P20.2: where no route is found; the longest one is taken.
func TestRoutes(t *testing.T) {
	policy := usual().policy
	for i, x := range []struct {
		routes []api.Route
		want   api.Errno
		side   int
	}{
		{nil, api.ErrRoute, 0},
		{[]api.Route{{Prefix: "ipn:3", Side: 7}, {Prefix: "ipn:2.10", Side: 7}}, api.ErrRoute, 0},
		{[]api.Route{{Side: 6}}, api.OK, 6},
		{[]api.Route{{Side: 6}, {Prefix: "ipn:2", Side: 7}}, api.OK, 7},
		{[]api.Route{{Prefix: "ipn:2.", Side: 7}, {Side: 6}, {Prefix: "ipn:2", Side: 6}}, api.OK, 7},
		{[]api.Route{{Prefix: "ipn:2.1", Side: 6}, {Prefix: "ipn:2.1", Side: 7}}, api.OK, 6},
	} {
		b := begun(t, 80, plainRules{x.routes, policy}, 0)
		_, e := b.in(6, sixOf())
		if e != x.want || e == api.OK && len(b.g.Waiting(x.side)) != 1 {
			t.Errorf("%d: error %d, there wait %v", i, e, append(b.g.Waiting(6), b.g.Waiting(7)...))
		}
	}
}

// P20.2: what can't be said in the other version is refused, if it goes there.
func TestOver(t *testing.T) {
	odd := func(x *api.Seven) { x.Time = 5001 }
	sum := func(x *api.Seven) { x.Sum = api.Sum16 }
	summed := func(x *api.Seven) { x.Blocks[0].Sum = api.Sum32 }
	many := func(x *api.Six) { x.Flags = 0 }
	told := func(x *api.Six) { x.Blocks[0].Flags |= api.Passed }
	for _, x := range []struct {
		side int
		six  func(*api.Six)
		sev  func(*api.Seven)
		want api.Errno
	}{
		{6, accepting, nil, api.ErrAccepted},
		{6, many, nil, api.ErrSingle},
		{6, told, nil, api.ErrPassed},
		{7, nil, odd, api.ErrTime},
		{7, nil, sum, api.ErrSum},
		{7, nil, summed, api.ErrSum},
		{7, nil, extras("?"), api.ErrClass},
	} {
		b := fresh(t)
		if x.side == 6 {
			b.wantIn(6, sixOf(x.six), 0, x.want)
			b.wantIn(6, sixOf(x.six, withDest("ipn:2.6")), 1, api.OK)
			b.wantStep(6, true, sixOf(x.six, withDest("ipn:2.6")), api.OK)
			continue
		}
		far := func(x *api.Seven) { x.Dest = named("ipn:3.7") }
		b.wantIn(7, sevenOf(x.sev), 0, x.want)
		b.wantIn(7, sevenOf(x.sev, far), 1, api.OK)
		b.wantStep(7, true, sevenOf(x.sev, far), api.OK)
	}
}

// sevens are so many blocks of 600 bytes, ahead of the last one.
func sevens(n int) func(*api.Seven) {
	return func(x *api.Seven) {
		var l []api.Block
		for i := range n {
			l = append(l, api.Block{Type: 200 + i, Num: 2 + i, Data: strings.Repeat("q", 600)})
		}
		x.Blocks = append(l, x.Blocks...)
	}
}

// P20.2: the queue's errors.
func TestQueueErrors(t *testing.T) {
	far := func(x *api.Seven) { x.Dest = named("ipn:3.7") }
	b := fresh(t)
	// It has no number when it ends.
	b.wantIn(7, sevenOf(far, func(x *api.Seven) { x.Time, x.Life = most, 1 }), 0, api.ErrEntry)
	b.wantIn(7, sevenOf(far, func(x *api.Seven) { x.Time, x.Life = most, most }), 0, api.ErrEntry)
	b.wantIn(7, sevenOf(far, func(x *api.Seven) { x.Time, x.Life = most, 0 }), 1, api.OK)
	b.wantIn(6, sixOf(withTime(api.MaxTime), withLife(1)), 0, api.ErrEntry)
	b.wantIn(6, sixOf(withTime(api.MaxTime), withLife(0)), 2, api.OK)
	// It has 1500 bytes, or more.
	fits := func(n int) string {
		return sevenOf(far, sevens(2), func(x *api.Seven) { x.Seq, x.Blocks[2].Data = 77, strings.Repeat("r", n) })
	}
	room := 1500 - len(fits(200)) + 200
	if len(fits(room)) != 1500 {
		t.Fatalf("%d bytes", len(fits(room)))
	}
	b.wantIn(7, fits(room+1), 0, api.ErrEntry)
	b.wantIn(7, fits(room), 3, api.OK)
	b.wantIn(7, fits(room), 0, api.ErrKnown)
	// The same key in the other version, and to the other side.
	b.wantIn(6, sixOf(), 4, api.OK)
	b.wantIn(7, over(6, sixOf(withData("other"))), 0, api.ErrKnown)
	b.wantIn(6, sixOf(withDest("ipn:2.6")), 5, api.OK)
	b.wantIn(7, sevenOf(), 0, api.ErrKnown)
	b.wantIn(6, sixOf(part(1)), 6, api.OK)
	b.wantIn(6, sixOf(part(2)), 7, api.OK)
	b.wantIn(6, sixOf(part(1)), 0, api.ErrKnown)
	// No more than 60 keys, on a disk with room.
	b = fresh(t)
	for i := range 60 {
		b.wantIn(6, sixOf(withSeq(i)), i+1, api.OK)
		b.wantStep(7, i%2 == 0, over(6, sixOf(withSeq(i))), api.OK)
	}
	b.wantIn(6, sixOf(withSeq(60)), 0, api.ErrFull)
	b.wantIn(6, sixOf(withSeq(59)), 0, api.ErrKnown)
	// A small disk.
	b = begun(t, 9, usual(), 0)
	b.wantIn(6, sixOf(), 1, api.OK)
	b.wantIn(6, sixOf(withSeq(1)), 2, api.OK)
	b.wantIn(6, sixOf(withSeq(2)), 0, api.ErrFull)
	b.wantIn(6, sixOf(), 0, api.ErrKnown)
	// A disk that goes down, when all is written.
	b = fresh(t)
	b.arm(3, 64)
	b.wantIn(6, sixOf(), 0, api.ErrDown)
	b.wantIn(6, sixOf(), 0, api.ErrDown)
	b.wantKeys(7)
	b.restart()
	b.wantIn(6, sixOf(), 0, api.ErrDown)
	b.wantErr(b.open(0), api.OK)
	b.wantIn(6, sixOf(), 0, api.ErrKnown)
	b.wantKeys(7, key(7, 0))
}

// P20.3: what Tick and Link are given.
func TestTickAndLinkErrors(t *testing.T) {
	b := begun(t, 80, usual(), 7)
	for _, n := range []int{math.MinInt, -1 << 32, -1, api.MaxTick + 1, 1 << 32, most, math.MaxInt} {
		b.wantErr(b.tick(n), api.ErrArg)
	}
	b.wantErr(b.tick(0), api.OK)
	b.wantErr(b.tick(api.MaxTick), api.OK)
	if b.g.Clock() != api.MaxTick+7 {
		t.Errorf("the clock is at %d", b.g.Clock())
	}
	b = begun(t, 80, usual(), most-5)
	b.wantErr(b.tick(6), api.ErrArg)
	b.wantErr(b.tick(api.MaxTick), api.ErrArg)
	b.wantErr(b.tick(4), api.OK)
	b.wantErr(b.tick(2), api.ErrArg)
	b.wantErr(b.tick(1), api.OK)
	b.wantErr(b.tick(1), api.ErrArg)
	b.wantErr(b.tick(0), api.OK)
	if b.g.Clock() != most {
		t.Errorf("the clock is at %d", b.g.Clock())
	}
	for _, side := range []int{math.MinInt, -7, -6, 0, 1, 5, 8, 6 + 256, 7 + 1<<32, math.MaxInt} {
		for _, up := range []bool{true, false} {
			b.wantErr(b.link(side, up), api.ErrArg)
			b.wantStep(side, up, "", api.ErrArg)
			b.wantIn(side, sixOf(), 0, api.ErrArg)
		}
	}
	b.wantStep(6, true, "", api.ErrLink)
	b.wantStep(7, true, "", api.ErrLink)
}

// P20.3: what ends is dropped, in order, and told.
func TestTick(t *testing.T) {
	b := fresh(t)
	b.wantIn(6, sixOf(withSeq(0), withLife(9)), 1, api.OK)
	b.wantIn(7, sevenOf(func(x *api.Seven) { x.Seq, x.Life = 1, 5000 }), 2, api.OK)
	b.wantIn(6, sixOf(withSeq(2), withLife(6), asking), 3, api.OK)
	b.wantIn(6, sixOf(withSeq(3), withLife(5), asking), 4, api.OK)
	b.wantIn(6, sixOf(withSeq(4), withLife(7)), 5, api.OK)
	b.wantStep(7, true, over(6, sixOf(withSeq(0), withLife(9))), api.OK)
	b.wantStep(7, true, over(6, sixOf(withSeq(2), withLife(6), asking)), api.OK)
	b.wantErr(b.tick(9999), api.OK)
	b.wantNotices()
	b.wantErr(b.tick(1), api.OK)
	b.wantNotices(notice(key(6, 1), api.ErrExpired), notice(key(7, 3), api.ErrExpired))
	b.wantKeys(6)
	b.wantKeys(7, key(7, 2), key(7, 4))
	// What was sent, and waits for its Ack, ends, too; all keys stay.
	b.wantErr(b.tick(2000), api.OK)
	b.wantNotices(notice(key(6, 1), api.ErrExpired), notice(key(7, 3), api.ErrExpired), notice(key(7, 2), api.ErrExpired), notice(key(7, 4), api.ErrExpired))
	b.wantKeys(7)
	b.wantErr(b.ack(key(7, 2)), api.ErrNone)
	if l := b.g.Keys(); len(l) != 5 {
		t.Errorf("keys %q", l)
	}
	b.wantErr(b.tick(api.MaxTick), api.OK)
	if l := b.g.Notices(); len(l) != 4 {
		t.Errorf("notices %v", l)
	}
}

// P20.3: if one can't be dropped those behind it stay; the clock has gone on.
func TestTickFails(t *testing.T) {
	start := func() *both {
		b := fresh(t)
		for i := range 5 {
			b.wantIn(6, sixOf(withSeq(i), withLife([]int{5, 90, 5, 6, 5}[i])), i+1, api.OK)
		}
		return b
	}
	for writes := 1; writes <= 6; writes++ {
		b := start()
		b.arm(writes, 0)
		b.wantErr(b.tick(20000), api.ErrDown)
		if b.g.Clock() != 20000 || b.d.Writes() == 0 {
			t.Errorf("the clock is at %d", b.g.Clock())
		}
		done := len(b.g.Notices())
		if all := []string{key(7, 0), key(7, 2), key(7, 3), key(7, 4)}; done > 3 || !slices.Equal(b.g.Notices(), []api.Notice{notice(all[0], 201), notice(all[1], 201), notice(all[2], 201)}[:done]) {
			t.Errorf("notices %v", b.g.Notices())
		}
		if len(b.g.Waiting(7)) != 5-done {
			t.Errorf("there wait %v", b.g.Waiting(7))
		}
		b.wantErr(b.tick(1), api.ErrDown)
		b.wantErr(b.tick(-1), api.ErrArg)
		if b.g.Clock() != 20001 {
			t.Errorf("the clock is at %d", b.g.Clock())
		}
		b.restart()
		b.wantErr(b.open(20000), api.OK)
		b.wantErr(b.tick(0), api.OK)
		b.wantKeys(7, key(7, 1))
	}
	// Where nothing has ended a queue that is down does no harm.
	b := start()
	b.arm(1, 0)
	b.wantIn(6, sixOf(withSeq(9)), 0, api.ErrDown)
	b.wantErr(b.tick(9999), api.OK)
	b.wantErr(b.link(7, false), api.OK)
	b.wantStep(7, true, "", api.ErrLink)
	b.wantErr(b.link(7, true), api.OK)
	b.wantStep(7, true, "", api.ErrDown)
	b.wantStep(6, true, "", api.ErrNone)
	b.wantErr(b.tick(1), api.ErrDown)
	// A disk that others filled.
	b = full(t, 245)
	b.wantErr(b.tick(8), api.OK)
	b.wantErr(b.tick(1), api.ErrFull)
	b.wantNotices()
	if b.g.Clock() != 9 || len(b.g.Waiting(7)) != 1 {
		t.Errorf("the clock is at %d, there wait %v", b.g.Clock(), b.g.Waiting(7))
	}
}

// full is a gate on a disk of 256 bytes an area, of which others used so many for one entry, which ends at 9.
func full(t *testing.T, bytes int) *both {
	t.Helper()
	b := unbegun(t, 9, usual())
	b.lay(laid(1, 7, "a", strings.Repeat("z", bytes-14-8-1), 9))
	b.wantErr(b.open(0), api.OK)
	b.connect()
	return b
}

// P20.3 and P20.4: a link is up, or not, as it was set for the last time.
func TestLinks(t *testing.T) {
	b := begun(t, 80, usual(), 0)
	for i := range 4 {
		b.wantIn(6, sixOf(withSeq(i)), i+1, api.OK)
	}
	b.wantIn(7, sevenOf(), 5, api.OK)
	b.wantErr(b.link(7, true), api.OK)
	b.wantStep(6, true, "", api.ErrLink)
	b.wantStep(7, true, over(6, sixOf()), api.OK)
	b.wantErr(b.link(6, true), api.OK)
	b.wantErr(b.link(7, false), api.OK)
	b.wantErr(b.link(7, false), api.OK)
	b.wantStep(7, true, "", api.ErrLink)
	b.wantStep(7, false, "", api.ErrLink)
	b.wantStep(6, true, over(7, sevenOf()), api.OK)
	b.wantStep(6, true, "", api.ErrNone)
	b.wantErr(b.link(7, true), api.OK)
	b.wantErr(b.link(7, true), api.OK)
	b.wantErr(b.link(6, false), api.OK)
	b.wantStep(7, true, over(6, sixOf(withSeq(1))), api.OK)
	b.wantStep(6, true, "", api.ErrLink)
	b.wantErr(b.open(0), api.OK)
	b.wantStep(7, true, "", api.ErrLink)
}

// P20.4: what asks for no custody is sent once: done, or dropped and told.
func TestStep(t *testing.T) {
	b := fresh(t)
	b.wantStep(6, true, "", api.ErrNone)
	b.wantStep(7, false, "", api.ErrNone)
	b.wantIn(6, sixOf(withSeq(0)), 1, api.OK)
	b.wantIn(7, sevenOf(func(x *api.Seven) { x.Seq = 9 }), 2, api.OK)
	b.wantIn(6, sixOf(withSeq(1)), 3, api.OK)
	b.wantIn(6, sixOf(withSeq(2), withDest("ipn:2.6")), 4, api.OK)
	b.wantStep(7, true, over(6, sixOf(withSeq(0))), api.OK)
	b.wantStep(7, false, over(6, sixOf(withSeq(1))), api.OK)
	b.wantStep(7, false, "", api.ErrNone)
	b.wantNotices(notice(key(7, 1), api.ErrLink))
	b.wantKeys(7)
	b.wantKeys(6, key(6, 9), key(6, 2))
	b.wantStep(6, false, over(7, sevenOf(func(x *api.Seven) { x.Seq = 9 })), api.OK)
	b.wantStep(6, true, sixOf(withSeq(2), withDest("ipn:2.6")), api.OK)
	b.wantStep(6, true, "", api.ErrNone)
	b.wantNotices(notice(key(7, 1), api.ErrLink), notice(key(6, 9), api.ErrLink))
	if l := b.g.Keys(); !slices.Equal(l, []string{key(7, 0), key(6, 9), key(7, 1), key(6, 2)}) {
		t.Errorf("keys %q", l)
	}
	b.wantErr(b.tick(api.MaxTick), api.OK)
	b.wantNotices(notice(key(7, 1), api.ErrLink), notice(key(6, 9), api.ErrLink))
	b.wantErr(b.open(0), api.OK)
	b.wantNotices()
}

// P20.4: what asks for custody is sent again behind 10000 thousandths, and by a new gate, up to its Ack.
func TestCustody(t *testing.T) {
	b := fresh(t)
	s, u := sixOf(asking), sixOf(asking, withSeq(1))
	b.wantIn(6, s, 1, api.OK)
	b.wantErr(b.ack(key(7, 0)), api.ErrNone)
	b.wantErr(b.tick(3), api.OK)
	b.wantStep(7, false, over(6, s), api.OK)
	b.wantNotices()
	if l := b.g.Waiting(7); len(l) != 1 || !l[0].Sent {
		t.Errorf("there wait %v", l)
	}
	b.wantIn(6, u, 2, api.OK)
	b.wantStep(7, true, over(6, u), api.OK)
	b.wantStep(7, true, "", api.ErrNone)
	b.wantErr(b.tick(9999), api.OK)
	b.wantStep(7, true, "", api.ErrNone)
	b.wantErr(b.tick(1), api.OK)
	b.wantStep(7, true, over(6, s), api.OK)
	b.wantErr(b.tick(5000), api.OK)
	b.wantStep(7, false, over(6, u), api.OK)
	b.wantStep(7, false, "", api.ErrNone)
	b.wantErr(b.tick(5000), api.OK)
	b.wantStep(7, false, over(6, s), api.OK)
	b.wantStep(7, false, "", api.ErrNone)
	// Far behind the time it is sent once, not as often as it might have been.
	b.wantErr(b.tick(35000), api.OK)
	b.wantStep(7, true, over(6, s), api.OK)
	b.wantStep(7, true, over(6, u), api.OK)
	b.wantStep(7, true, "", api.ErrNone)
	// A new gate does not know when it was sent.
	b.wantErr(b.open(20), api.OK)
	b.wantNotices()
	b.connect()
	b.wantStep(7, true, over(6, s), api.OK)
	b.wantErr(b.tick(1), api.OK)
	b.wantStep(7, true, over(6, u), api.OK)
	b.wantStep(7, true, "", api.ErrNone)
	b.wantErr(b.ack(key(7, 1)), api.OK)
	b.wantErr(b.ack(key(7, 1)), api.ErrNone)
	b.wantErr(b.tick(20000), api.OK)
	b.wantStep(7, true, over(6, s), api.OK)
	b.wantStep(7, true, "", api.ErrNone)
	b.wantErr(b.ack(key(7, 0)), api.OK)
	b.wantErr(b.tick(20000), api.OK)
	b.wantStep(7, true, "", api.ErrNone)
	b.wantNotices()
	b.wantIn(6, s, 0, api.ErrKnown)
	b.wantErr(b.open(0), api.OK)
	b.wantKeys(7)
}

// P20.4: a bundle of version 7 that asks for custody, to version 6.
func TestCustodyDown(t *testing.T) {
	b := fresh(t)
	v := sevenOf(extras(classData(api.Class{Custody: true, Custodian: named("ipn:8.0")})))
	b.wantIn(7, v, 1, api.OK)
	b.wantStep(6, false, over(7, v), api.OK)
	b.wantStep(6, false, "", api.ErrNone)
	b.wantErr(b.tick(10000), api.OK)
	b.wantStep(6, true, over(7, v), api.OK)
	b.wantErr(b.ack(key(6, 0)), api.OK)
	b.wantNotices()
}

// P20.4: which keys an Ack may be of.
func TestAck(t *testing.T) {
	b := fresh(t)
	b.wantIn(6, sixOf(asking), 1, api.OK)
	b.wantIn(6, sixOf(asking, withSeq(1)), 2, api.OK)
	b.wantIn(6, sixOf(withSeq(2)), 3, api.OK)
	b.wantIn(6, sixOf(asking, withSeq(3), withDest("ipn:2.6")), 4, api.OK)
	b.wantStep(7, true, over(6, sixOf(asking)), api.OK)
	b.wantStep(6, true, sixOf(asking, withSeq(3), withDest("ipn:2.6")), api.OK)
	for _, text := range []string{"", "7", key(6, 0), key(7, 1), key(7, 2), key(7, 3), key(7, 4), key(7, 0) + " ", " " + key(7, 0), key(7, 0) + "\x00", key(7, 0)[:17], strings.Repeat("a", 3000)} {
		b.wantErr(b.ack(text), api.ErrNone)
	}
	// No link has to be up.
	b.wantErr(b.link(7, false), api.OK)
	b.wantErr(b.ack(key(7, 0)), api.OK)
	b.wantErr(b.ack(key(7, 0)), api.ErrNone)
	b.wantErr(b.ack(key(6, 3)), api.OK)
	b.wantKeys(7, key(7, 1), key(7, 2))
	b.wantKeys(6)
	b.wantNotices()
	// What was sent ahead of a power loss.
	b.wantErr(b.link(7, true), api.OK)
	b.wantStep(7, true, over(6, sixOf(asking, withSeq(1))), api.OK)
	b.wantErr(b.open(0), api.OK)
	b.wantErr(b.ack(key(7, 1)), api.OK)
	b.wantKeys(7, key(7, 2))
}

// P20.4: the queue's errors: what was not told to be sent is not told, what was is.
func TestStepFails(t *testing.T) {
	for _, ok := range []bool{true, false} {
		for writes := 1; writes <= 4; writes++ {
			b := fresh(t)
			b.wantIn(6, sixOf(), 1, api.OK)
			b.wantIn(6, sixOf(withSeq(1)), 2, api.OK)
			b.arm(writes, 64)
			// It is said to be sent by 2 writes, and to be done by 2 more.
			want, next := over(6, sixOf()), over(6, sixOf(withSeq(1)))
			switch writes {
			case 1:
				want, next = "", over(6, sixOf())
			case 2:
				want = ""
			}
			b.wantStep(7, ok, want, api.ErrDown)
			b.wantNotices()
			b.wantKeys(7, key(7, 0), key(7, 1))
			// Nothing is sent any more.
			b.wantStep(7, ok, "", api.ErrDown)
			b.restart()
			b.wantStep(7, ok, "", api.ErrDown)
			b.wantErr(b.open(0), api.OK)
			b.connect()
			b.wantStep(7, ok, next, api.OK)
		}
	}
	// There is room on the disk for one record more, or none.
	for _, ok := range []bool{true, false} {
		b := full(t, 245)
		b.wantStep(7, ok, "", api.ErrFull)
		b.wantStep(7, ok, "", api.ErrFull)
		b.wantNotices()
		b = full(t, 230)
		b.wantStep(7, ok, strings.Repeat("z", 230-23), api.ErrFull)
		b.wantStep(7, ok, "", api.ErrNone)
		b.wantNotices()
		if l := b.g.Waiting(7); len(l) != 1 || !l[0].Sent {
			t.Errorf("there wait %v", l)
		}
		b.wantErr(b.tick(9), api.ErrFull)
		b.wantNotices()
	}
}

// P20.4: an Ack that the queue can't log: it may be told again.
func TestAckFails(t *testing.T) {
	b := fresh(t)
	b.wantIn(6, sixOf(asking), 1, api.OK)
	b.wantStep(7, true, over(6, sixOf(asking)), api.OK)
	b.arm(1, 64)
	b.wantErr(b.ack("?"), api.ErrNone)
	b.wantErr(b.ack(key(7, 0)), api.ErrDown)
	b.wantErr(b.ack(key(7, 0)), api.ErrDown)
	b.wantErr(b.ack("?"), api.ErrNone)
	b.wantKeys(7, key(7, 0))
	b.wantErr(b.tick(10000), api.OK)
	b.wantStep(7, true, "", api.ErrDown)
	b.restart()
	b.wantErr(b.open(0), api.OK)
	b.connect()
	b.wantStep(7, true, over(6, sixOf(asking)), api.OK)
	b.wantErr(b.ack(key(7, 0)), api.OK)
	b = unbegun(t, 9, usual())
	b.lay(laid(1, 7+128, "a", strings.Repeat("z", 230-23), 9), api.Rec{Op: api.OpSent, Id: 1})
	b.wantErr(b.open(0), api.OK)
	b.wantErr(b.ack("a"), api.ErrFull)
	b.wantErr(b.ack("a"), api.ErrFull)
	b.wantNotices()
}

// P20.5: what is refused changes nothing.
func TestRefusedChangesNothing(t *testing.T) {
	b := fresh(t)
	b.wantErr(b.tick(10), api.OK)
	b.wantIn(6, sixOf(), 1, api.OK)
	b.wantIn(6, sixOf(withSeq(1)), 2, api.OK)
	b.wantIn(6, sixOf(asking, withSeq(2)), 3, api.OK)
	b.wantStep(7, false, over(6, sixOf()), api.OK)
	b.wantErr(b.link(7, false), api.OK)
	ahead, bytes, writes := toldBy(b.g), image(b.d), b.d.Writes()
	for i, refused := range []func() api.Errno{
		func() api.Errno { _, e := b.g.In(0, sixOf(withSeq(9))); return e },
		func() api.Errno { _, e := b.g.In(6, sevenOf()); return e },
		func() api.Errno { _, e := b.g.In(7, sixOf()); return e },
		func() api.Errno { _, e := b.g.In(6, sixOf(withTime(0), withLife(0))); return e },
		func() api.Errno { _, e := b.g.In(6, sixOf(withSource("ipn:9.1"))); return e },
		func() api.Errno { _, e := b.g.In(6, sixOf(withDest("ipn:5.1"))); return e },
		func() api.Errno { _, e := b.g.In(6, sixOf(accepting, withSeq(9))); return e },
		func() api.Errno { _, e := b.g.In(6, sixOf(withTime(api.MaxTime))); return e },
		func() api.Errno { _, e := b.g.In(6, sixOf()); return e },
		func() api.Errno { _, e := b.g.In(6, sixOf(withSeq(1))); return e },
		func() api.Errno { return b.g.Tick(-1) },
		func() api.Errno { return b.g.Tick(api.MaxTick + 1) },
		func() api.Errno { return b.g.Link(8, true) },
		func() api.Errno { _, e := b.g.Step(8, true); return e },
		func() api.Errno { _, e := b.g.Step(7, true); return e },
		func() api.Errno { _, e := b.g.Step(6, false); return e },
		func() api.Errno { return b.g.Ack(key(7, 1)) },
		func() api.Errno { return b.g.Ack(key(7, 2)) },
		func() api.Errno { return b.g.Ack("") },
	} {
		if e := refused(); e == api.OK {
			t.Errorf("%d: not refused", i)
		}
		if got := toldBy(b.g); !got.same(ahead) || image(b.d) != bytes || b.d.Writes() != writes {
			t.Errorf("%d: the gate tells %v; ahead of it %v", i, got, ahead)
		}
	}
	b.wantSame()
}

// A queue that is on the gate's disk already, from elsewhere, is what the gate goes on with.
func TestQueueOfOthers(t *testing.T) {
	b := unbegun(t, 80, usual())
	for _, d := range []*disk.Disk{b.d, b.p} {
		q, _, _ := queue.New(d)
		q.Put(api.Entry{Side: 6, Key: "k", Data: "no bundle", Due: 3})
		q.Put(api.Entry{Side: 7, Key: key(7, 0), Data: "other", Due: 4, Custody: true})
		q.Put(api.Entry{Side: 6, Key: "l", Data: "none either", Due: 5})
		q.Sent(3)
	}
	b.wantErr(b.open(4), api.OK)
	b.connect()
	b.wantNotices(notice("l", api.ErrLost))
	b.wantIn(6, sixOf(), 0, api.ErrKnown)
	b.wantIn(6, sixOf(withSeq(1)), 4, api.OK)
	b.wantStep(6, false, "no bundle", api.OK)
	b.wantStep(7, false, "other", api.OK)
	b.wantErr(b.ack(key(7, 0)), api.OK)
	b.wantNotices(notice("l", api.ErrLost), notice("k", api.ErrLink))
}
