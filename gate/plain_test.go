package gate_test

import (
	"fmt"
	"strings"

	"postrider/api"
	"postrider/disk"
	"postrider/eid"
	"postrider/ext"
	"postrider/queue"
	"postrider/seven"
	"postrider/six"
	"postrider/xlate"
)

// most is the greatest number.
const most = 1<<48 - 1

// plainText is a right name's text.
func plainText(e api.Eid) string {
	s, wrong := eid.Print(e)
	if wrong != api.OK {
		panic(fmt.Sprint("no name: ", e))
	}
	return s
}

// plainBundle is a bundle, of whichever version, with times in thousandths.
type plainBundle struct {
	dest, source         string
	time, life, seq, off int
	custody              bool
}

func (b plainBundle) key(side int) string {
	return fmt.Sprintf("%d %s %d %d %d", side, b.source, b.time, b.seq, b.off)
}

func plainRead(side int, s string) (plainBundle, api.Errno) {
	if side == 6 {
		x, wrong := six.Parse(s)
		if wrong != api.OK {
			return plainBundle{}, api.ErrSix
		}
		return plainBundle{plainText(x.Dest), plainText(x.Source), x.Time * 1000, x.Life * 1000, x.Seq, x.Off, x.Flags&8 == 8}, api.OK
	}
	x, wrong := seven.Parse(s)
	if wrong != api.OK {
		return plainBundle{}, api.ErrSeven
	}
	b := plainBundle{plainText(x.Dest), plainText(x.Source), x.Time, x.Life, x.Seq, x.Off, false}
	for _, block := range x.Blocks {
		if block.Type == 192 {
			c, wrong := ext.Read(block.Data)
			b.custody = wrong == api.OK && c.Custody
		}
	}
	return b, api.OK
}

// plainRules are routes and a policy that are right.
type plainRules struct {
	routes []api.Route
	policy api.Policy
}

// pass tells why a bundle of so many bytes may not pass, if so.
func (r plainRules) pass(b plainBundle, size int) api.Errno {
	for _, text := range r.policy.Deny {
		if strings.HasPrefix(b.dest, text) || strings.HasPrefix(b.source, text) {
			return api.ErrDenied
		}
	}
	switch {
	case size > r.policy.MaxSize:
		return api.ErrSize
	case b.life > r.policy.MaxLife:
		return api.ErrLife
	case b.custody && !r.policy.Custody:
		return api.ErrNoCustody
	}
	return api.OK
}

// side is where a bundle goes to, or 0.
func (r plainRules) side(b plainBundle) int {
	side, longest := 0, -1
	for _, x := range r.routes {
		if strings.HasPrefix(b.dest, x.Prefix) && len(x.Prefix) > longest {
			side, longest = x.Side, len(x.Prefix)
		}
	}
	return side
}

// plain is a gate as the chapter says it.
type plain struct {
	plainRules
	queue   *queue.Queue
	clock   int
	up      map[int]bool
	last    map[string]int
	notices []api.Notice
}

func plainNew(d *disk.Disk, rules plainRules, now int) (*plain, api.Errno) {
	q, lost, wrong := queue.New(d)
	if wrong != api.OK {
		return nil, wrong
	}
	m := &plain{plainRules: rules, queue: q, clock: now, up: map[int]bool{}, last: map[string]int{}}
	for _, e := range lost {
		m.notices = append(m.notices, api.Notice{Key: e.Key, Why: 203})
	}
	return m, api.OK
}

func (m *plain) waiting(side int) []api.Entry {
	var l []api.Entry
	for _, e := range m.queue.Entries() {
		if e.Side == side {
			l = append(l, e)
		}
	}
	return l
}

func (m *plain) in(side int, s string) (int, api.Errno) {
	if side != 6 && side != 7 {
		return 0, api.ErrArg
	}
	b, wrong := plainRead(side, s)
	if wrong != api.OK {
		return 0, wrong
	}
	if b.time+b.life <= m.clock {
		return 0, api.ErrExpired
	}
	if wrong := m.pass(b, len(s)); wrong != api.OK {
		return 0, wrong
	}
	to := m.side(b)
	if to == 0 {
		return 0, api.ErrRoute
	}
	if to != side {
		if s, wrong = xlate.Over(side, s); wrong != api.OK {
			return 0, wrong
		}
	}
	return m.queue.Put(api.Entry{Side: to, Key: b.key(to), Data: s, Due: b.time + b.life, Custody: b.custody})
}

func (m *plain) tick(n int) api.Errno {
	if n < 0 || n > 1000000000 || m.clock > most-n {
		return api.ErrArg
	}
	m.clock += n
	for _, e := range m.queue.Entries() {
		if e.Due > m.clock {
			continue
		}
		if wrong := m.queue.Drop(e.Id); wrong != api.OK {
			return wrong
		}
		m.notices = append(m.notices, api.Notice{Key: e.Key, Why: 201})
	}
	return api.OK
}

func (m *plain) link(side int, up bool) api.Errno {
	if side != 6 && side != 7 {
		return api.ErrArg
	}
	m.up[side] = up
	return api.OK
}

func (m *plain) ready(e api.Entry) bool {
	if !e.Sent {
		return true
	}
	at, sent := m.last[e.Key]
	return e.Custody && (!sent || m.clock >= at+10000)
}

func (m *plain) step(side int, ok bool) (string, api.Errno) {
	if side != 6 && side != 7 {
		return "", api.ErrArg
	}
	if !m.up[side] {
		return "", api.ErrLink
	}
	for _, e := range m.waiting(side) {
		if m.ready(e) {
			return m.send(e, ok)
		}
	}
	return "", api.ErrNone
}

func (m *plain) send(e api.Entry, ok bool) (string, api.Errno) {
	if wrong := m.queue.Sent(e.Id); wrong != api.OK {
		return "", wrong
	}
	m.last[e.Key] = m.clock
	if e.Custody {
		return e.Data, api.OK
	}
	if ok {
		return e.Data, m.queue.Done(e.Id)
	}
	wrong := m.queue.Drop(e.Id)
	if wrong == api.OK {
		m.notices = append(m.notices, api.Notice{Key: e.Key, Why: 202})
	}
	return e.Data, wrong
}

func (m *plain) ack(key string) api.Errno {
	for _, e := range m.queue.Entries() {
		if e.Key == key && e.Custody && e.Sent {
			return m.queue.Done(e.Id)
		}
	}
	return api.ErrNone
}
