package queue

import (
	"slices"
	"strings"

	"postrider/api"
	"postrider/nums"
)

const (
	// The sides that entries go to.
	sideSix   = 6
	sideSeven = 7
	// What is put to the side of an entry that asks for custody.
	custodyMark = 128
	// In how many bytes each of an entry's numbers stands.
	sideWidth  = 1
	dueWidth   = 6
	countWidth = 1
	// How many bytes a frame without data has.
	bare = 14
)

// none is the entry that is not there: no right one is like it.
func none() api.Entry { return api.Entry{} }

func right(e api.Entry) bool {
	return e.Id >= 1 && nums.Right(e.Id) &&
		(e.Side == sideSix || e.Side == sideSeven) &&
		rightKey(e.Key) &&
		1 <= len(e.Data) && len(e.Data) <= api.MaxEntry &&
		nums.Right(e.Due)
}

func rightKey(text string) bool { return 1 <= len(text) && len(text) <= api.MaxKey }

// putting is the record that lets a right entry wait.
func putting(e api.Entry) api.Rec {
	side := e.Side
	if e.Custody {
		side += custodyMark
	}
	data := []string{numberBytes(side, sideWidth), numberBytes(e.Due, dueWidth), numberBytes(len(e.Key), countWidth), e.Key, e.Data}
	return api.Rec{Op: api.OpPut, Id: e.Id, Data: strings.Join(data, "")}
}

func numberBytes(n int, width int) string {
	s, _ := nums.Bytes(n, width)
	return s
}

// waiting is the entry that a record lets wait, or none.
func waiting(r api.Rec) api.Entry {
	// Where too few bytes stand, all that is read is 0 or empty, the data at last: no right entry has such.
	side, _ := nums.Take(r.Data, 0, sideWidth)
	due, _ := nums.Take(r.Data, sideWidth, dueWidth)
	count, _ := nums.Take(r.Data, sideWidth+dueWidth, countWidth)
	begin := sideWidth + dueWidth + countWidth
	text, _ := nums.Cut(r.Data, begin, count)
	data, _ := nums.Rest(r.Data, begin+count)
	e := api.Entry{Id: r.Id, Side: side &^ custodyMark, Key: text, Data: data, Due: due, Custody: side&custodyMark != 0}
	if !right(e) {
		return none()
	}
	return e
}

// ahead is how many bytes the records have that may still have to be logged of an entry.
func ahead(e api.Entry) int {
	if e.Sent {
		return bare
	}
	return 2 * bare
}

// key is one of an entry that was put, and the Id of that.
type key[T comparable] struct {
	text T
	id   int
}

// taken tells whether a key, or its Id, is among keys.
func taken[T comparable](asked key[T], keys []key[T]) bool {
	return slices.ContainsFunc(keys, func(k key[T]) bool { return k.text == asked.text || k.id == asked.id })
}

// told is what records tell: entries that wait, and keys.
type told struct {
	entries []api.Entry
	keys    []key[string]
}

// doings are what records do, by their kinds.
func doings() map[int]func(*told, api.Rec) {
	return map[int]func(*told, api.Rec){
		api.OpPut:  (*told).enter,
		api.OpSent: (*told).send,
		api.OpDone: (*told).leave,
		api.OpDrop: (*told).leave,
		api.OpKey:  (*told).learn,
	}
}

// take takes in what records tell, one after the other.
func (t *told) take(records ...api.Rec) {
	kinds := doings()
	for _, r := range records {
		if do, found := kinds[r.Op]; found {
			do(t, r)
		}
	}
}

func (t *told) enter(r api.Rec) {
	e := waiting(r)
	if e == none() || !t.isNew(key[string]{e.Key, e.Id}) {
		return
	}
	t.entries = append(t.entries, e)
	t.keys = append(t.keys, key[string]{e.Key, e.Id})
}

func (t *told) learn(r api.Rec) {
	k := key[string]{r.Data, r.Id}
	if k.id >= 1 && rightKey(k.text) && t.isNew(k) {
		t.keys = append(t.keys, k)
	}
}

func (t *told) send(r api.Rec) {
	if place := t.place(r.Id); place >= 0 {
		t.entries[place].Sent = true
	}
}

func (t *told) leave(r api.Rec) {
	if place := t.place(r.Id); place >= 0 {
		t.entries = slices.Delete(t.entries, place, place+1)
	}
}

// isNew tells whether a key may stand behind all others.
func (t *told) isNew(k key[string]) bool { return len(t.keys) < api.MaxKeys && !taken(k, t.keys) }

// knows asks with the Id 0, which no key has.
func (t *told) knows(text string) bool { return taken(key[string]{text: text}, t.keys) }

// place is where the entry with an Id stands, or -1.
func (t *told) place(id int) int {
	return slices.IndexFunc(t.entries, func(e api.Entry) bool { return e.Id == id })
}

// find is the entry with an Id, or none.
func (t *told) find(id int) api.Entry {
	if place := t.place(id); place >= 0 {
		return t.entries[place]
	}
	return none()
}

// next is the Id that the next entry has.
func (t *told) next() int {
	greatest := 0
	for _, k := range t.keys {
		greatest = max(greatest, k.id)
	}
	return greatest + 1
}

// lost are the entries of which nobody knows whether they arrived, when the power is gone.
func (t *told) lost() []api.Entry {
	var list []api.Entry
	for _, e := range t.entries {
		if e.Sent && !e.Custody {
			list = append(list, e)
		}
	}
	return list
}

// snapshot are the fewest records that tell all this.
func (t *told) snapshot() []api.Rec {
	var list []api.Rec
	for _, k := range t.keys {
		e := t.find(k.id)
		if e == none() {
			list = append(list, api.Rec{Op: api.OpKey, Id: k.id, Data: k.text})
			continue
		}
		list = append(list, putting(e))
		if e.Sent {
			list = append(list, api.Rec{Op: api.OpSent, Id: e.Id})
		}
	}
	return list
}
