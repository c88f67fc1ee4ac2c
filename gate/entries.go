package gate

import (
	"iter"
	"slices"

	"postrider/api"
	"postrider/nums"
)

// asked is what an entry has to be to be gone through.
type asked func(api.Entry) bool

// those goes through the entries that are all that is asked for, in order.
func (g *Gate) those(all ...asked) iter.Seq[api.Entry] {
	return func(yield func(api.Entry) bool) {
	entries:
		for e := range slices.Values(g.Entries()) {
			for _, is := range all {
				if !is(e) {
					continue entries
				}
			}
			if !yield(e) {
				break entries
			}
		}
	}
}

// none is the entry that is not there: no one that waits is like it.
func none() api.Entry { return api.Entry{} }

// first is the first one of entries, or none.
func first(entries iter.Seq[api.Entry]) api.Entry {
	for e := range entries {
		return e
	}
	return none()
}

func goesTo(side int) asked {
	return func(e api.Entry) bool { return e.Side == side }
}

func hasKey(key string) asked {
	return func(e api.Entry) bool { return e.Key == key }
}

// isOpen tells whether an entry was sent, and waits for custody of it to be taken.
func isOpen(e api.Entry) bool { return e.Custody && e.Sent }

// hasEnded tells whether an entry ends at the clock, or ahead of it.
func (g *Gate) hasEnded(e api.Entry) bool { return e.Due <= g.clock }

// isReady tells whether an entry may be sent.
func (g *Gate) isReady(e api.Entry) bool {
	at, found := g.sends[e.Id]
	return !e.Sent || e.Custody && (!found || g.clock-at >= api.Retry)
}

// silence is the notice of what was taken: there is nothing to tell.
func silence() api.Notice { return api.Notice{} }

// notice tells why an entry waits no more, though it was not taken.
func notice(e api.Entry, why api.Errno) api.Notice { return api.Notice{Key: e.Key, Why: why} }

// leave lets an entry wait no more, for what the notice tells.
func (g *Gate) leave(e api.Entry, why api.Notice) error {
	call, end := "queue.Drop", g.Drop
	if why == silence() {
		call, end = "queue.Done", g.Done
	}
	if wrong := told(call, end(e.Id)); wrong != nil {
		return wrong
	}
	delete(g.sends, e.Id)
	if why != silence() {
		g.notices = append(g.notices, why)
	}
	return nil
}

func (g *Gate) tick(n int) error {
	small := func() bool { return 0 <= n && n <= api.MaxTick && nums.Right(g.clock+n) }
	if wrong := hold(g.usable, unless(small, api.ErrArg)); wrong != nil {
		return wrong
	}
	g.clock += n
	var wrong error
ended:
	for e := range g.those(g.hasEnded) {
		if wrong = g.leave(e, notice(e, api.ErrExpired)); wrong != nil {
			break ended
		}
	}
	return wrong
}

func (g *Gate) step(side int, ok bool) (s string, wrong error) {
	isUp := func() bool { return g.links[side] }
	if wrong := hold(g.usable, g.has(side), unless(isUp, api.ErrLink)); wrong != nil {
		return "", wrong
	}
	e := first(g.those(goesTo(side), g.isReady))
	if e == none() {
		return "", refusal{api.ErrNone}
	}
	if wrong := told("queue.Sent", g.Sent(e.Id)); wrong != nil {
		return "", wrong
	}
	// It is on its way now: that is told also if the disk goes down behind it.
	defer func() { wrong = g.settle(e, ok) }()
	return e.Data, nil
}

// settle does what is left to do with an entry that was just sent.
func (g *Gate) settle(e api.Entry, ok bool) error {
	switch {
	case e.Custody:
		g.sends[e.Id] = g.clock
		return nil
	case ok:
		return g.leave(e, silence())
	}
	return g.leave(e, notice(e, api.ErrLink))
}

func (g *Gate) ack(key string) error {
	if wrong := g.usable(); wrong != nil {
		return wrong
	}
	e := first(g.those(hasKey(key), isOpen))
	if e == none() {
		return refusal{api.ErrNone}
	}
	return g.leave(e, silence())
}
