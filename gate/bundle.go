package gate

import (
	"strconv"
	"strings"

	"postrider/api"
	"postrider/eid"
	"postrider/ext"
	"postrider/route"
	"postrider/seven"
	"postrider/signs"
	"postrider/six"
	"postrider/xlate"
)

// facts are what a gate needs of a bundle, of whichever version. Times are in thousandths.
type facts struct {
	dest    api.Eid
	source  api.Eid
	time    int
	life    int
	seq     int
	off     int
	custody bool
}

func (f facts) ends() int { return f.time + f.life }

// key tells a bundle, or a part of one, from others that go to a side.
func (f facts) key(side int) string {
	// The names of a bundle that is right are right.
	text, _ := eid.Print(f.source)
	return strings.Join([]string{strconv.Itoa(side), text, strconv.Itoa(f.time), strconv.Itoa(f.seq), strconv.Itoa(f.off)}, " ")
}

// needed is a bundle as its version has it, a B, and what a gate needs of it.
type needed[B any] struct {
	facts
	bundle B
}

// read reads a bundle from its bytes, and what is needed of it.
func read[B any](s string, parse func(string) (B, api.Errno), fill func(*needed[B])) (needed[B], error) {
	b, errno := parse(s)
	if errno != api.OK {
		return needed[B]{}, told("parse", errno)
	}
	n := needed[B]{bundle: b}
	fill(&n)
	return n, nil
}

func fillSix(n *needed[api.Six]) {
	b := n.bundle
	// The times of a bundle that is right have thousandths.
	time, _ := signs.Millis(b.Time)
	life, _ := signs.Millis(b.Life)
	n.facts = facts{b.Dest, b.Source, time, life, b.Seq, b.Off, b.Flags&api.Custody != 0}
}

func fillSeven(n *needed[api.Seven]) {
	b := n.bundle
	// Without such a block, as with one that can't be read, the class is plain.
	data, _ := seven.Find(b, api.Extras)
	class, _ := ext.Read(data)
	n.facts = facts{b.Dest, b.Source, b.Time, b.Life, b.Seq, b.Off, class.Custody}
}

// look tells what is needed of the bundle that came from a side as such bytes.
func look(side int, s string) (facts, error) {
	if side == sideSix {
		n, wrong := read(s, six.Parse, fillSix)
		return n.facts, wrong
	}
	n, wrong := read(s, seven.Parse, fillSeven)
	return n.facts, wrong
}

// over are the bytes on one side of what came from a side.
func over(from int, to int, s string) (string, error) {
	if from == to {
		return s, nil
	}
	data, errno := xlate.Over(from, s)
	return data, told("xlate.Over", errno)
}

// way is the side that bundles to a name go to.
func (g *Gate) way(dest api.Eid) (int, error) {
	place, found, errno := route.Find(g.routes, dest)
	if errno != api.OK {
		return 0, told("route.Find", errno)
	}
	if !found {
		return 0, refusal{api.ErrRoute}
	}
	return g.routes[place].Side, nil
}

// lives is the rule that a bundle has not ended by now.
func (g *Gate) lives(f facts) rule {
	return unless(func() bool { return f.ends() > g.clock }, api.ErrExpired)
}

// passes is the rule that the policy lets pass a bundle of so many bytes.
func (g *Gate) passes(f facts, size int) rule {
	return func() error {
		return told("route.Pass", route.Pass(g.policy, size, f.life, f.custody, []api.Eid{f.dest, f.source}))
	}
}

// entry is what waits of a bundle that came from a side as such bytes.
func (g *Gate) entry(side int, s string, f facts) (api.Entry, error) {
	to, wrong := g.way(f.dest)
	if wrong != nil {
		return api.Entry{}, wrong
	}
	data, wrong := over(side, to, s)
	if wrong != nil {
		return api.Entry{}, wrong
	}
	return api.Entry{Side: to, Key: f.key(to), Data: data, Due: f.ends(), Custody: f.custody}, nil
}

func (g *Gate) in(side int, s string) (int, error) {
	if wrong := hold(g.usable, g.has(side)); wrong != nil {
		return 0, wrong
	}
	f, wrong := look(side, s)
	if wrong != nil {
		return 0, wrong
	}
	if wrong := hold(g.lives(f), g.passes(f, len(s))); wrong != nil {
		return 0, wrong
	}
	e, wrong := g.entry(side, s, f)
	if wrong != nil {
		return 0, wrong
	}
	id, errno := g.Put(e)
	return id, told("queue.Put", errno)
}
