package queue_test

import (
	"bytes"
	"encoding/binary"
	"hash/crc32"
	"slices"

	"postrider/api"
)

// most is the greatest number.
const most = 1<<48 - 1

func rec(op int, id int, data string) api.Rec { return api.Rec{Op: op, Id: id, Data: data} }

// plainFrame is a record's frame, worked out by the library.
func plainFrame(r api.Rec) string {
	b := append([]byte{0xe1, byte(r.Op)}, binary.BigEndian.AppendUint64(nil, uint64(r.Id))[2:]...)
	b = binary.BigEndian.AppendUint16(b, uint16(len(r.Data)))
	b = append(b, r.Data...)
	return string(binary.BigEndian.AppendUint32(b, crc32.Checksum(b, crc32.MakeTable(crc32.Castagnoli))))
}

func plainLay(l ...api.Rec) string {
	s := ""
	for _, r := range l {
		s += plainFrame(r)
	}
	return s
}

// plainScan reads frame by frame: one stands where the bytes are those of what they tell.
func plainScan(s []byte) ([]api.Rec, int) {
	var l []api.Rec
	at := 0
	for len(s)-at >= 14 {
		count := int(binary.BigEndian.Uint16(s[at+8:]))
		if count > 2000 || len(s)-at < 14+count || s[at+1] < 1 || s[at+1] > 9 {
			break
		}
		id := int(binary.BigEndian.Uint64(s[at:]) & most)
		r := rec(int(s[at+1]), id, string(s[at+10:at+10+count]))
		if !bytes.HasPrefix(s[at:], []byte(plainFrame(r))) {
			break
		}
		l = append(l, r)
		at += 14 + count
	}
	return l, at
}

// plainData is an entry's data in a record.
func plainData(e api.Entry) string {
	side := byte(e.Side)
	if e.Custody {
		side |= 0x80
	}
	b := append([]byte{side}, binary.BigEndian.AppendUint64(nil, uint64(e.Due))[2:]...)
	return string(append(b, byte(len(e.Key)))) + e.Key + e.Data
}

func plainPut(e api.Entry) api.Rec { return rec(1, e.Id, plainData(e)) }

func plainRight(e api.Entry) bool {
	return e.Id >= 1 && e.Id <= most && (e.Side == 6 || e.Side == 7) && len(e.Key) >= 1 && len(e.Key) <= 120 && len(e.Data) >= 1 && len(e.Data) <= 1500 && e.Due >= 0 && e.Due <= most
}

// plainDisk is a disk as chapter 18 says it.
type plainDisk struct {
	bytes  []byte
	writes int
	cut    int
	down   bool
	done   int
}

func (p *plainDisk) arm(writes int, cut int) { p.writes, p.cut = writes, cut }

func (p *plainDisk) restart() { p.writes, p.cut, p.down = 0, 0, false }

// write tells whether all was written.
func (p *plainDisk) write(i int, s []byte) bool {
	if p.down {
		return false
	}
	p.done++
	reached := 64
	if p.writes == 1 {
		reached, p.down = p.cut, true
	}
	p.writes = max(p.writes-1, 0)
	copy(p.bytes[i*64:], s[:reached])
	return !p.down
}

// plainKey is a key, and its Id.
type plainKey struct {
	text string
	id   int
}

// plain is a queue as the chapter says it.
type plain struct {
	disk    *plainDisk
	entries []api.Entry
	keys    []plainKey
	second  bool
	tail    int
	down    bool
}

func (q *plain) hasId(id int) bool {
	return slices.ContainsFunc(q.keys, func(k plainKey) bool { return k.id == id })
}

func (q *plain) knows(text string) bool {
	return slices.ContainsFunc(q.keys, func(k plainKey) bool { return k.text == text })
}

func (q *plain) place(id int) int {
	return slices.IndexFunc(q.entries, func(e api.Entry) bool { return e.Id == id })
}

func (q *plain) tell(r api.Rec) {
	at := q.place(r.Id)
	switch r.Op {
	case 1:
		d := r.Data
		if len(d) < 8 || len(d) < 8+int(d[7]) {
			return
		}
		due := int(binary.BigEndian.Uint64([]byte("\x00\x00" + d[1:7])))
		key := d[8 : 8+int(d[7])]
		e := api.Entry{Id: r.Id, Side: int(d[0] & 0x7f), Key: key, Data: d[8+len(key):], Due: due, Custody: d[0] > 0x7f}
		if plainRight(e) && len(q.keys) < 60 && !q.hasId(r.Id) && !q.knows(key) {
			q.entries = append(q.entries, e)
			q.keys = append(q.keys, plainKey{key, r.Id})
		}
	case 2:
		if at >= 0 {
			q.entries[at].Sent = true
		}
	case 3, 4:
		if at >= 0 {
			q.entries = slices.Delete(q.entries, at, at+1)
		}
	case 5:
		if r.Id > 0 && len(r.Data) > 0 && len(r.Data) < 121 && len(q.keys) < 60 && !q.hasId(r.Id) && !q.knows(r.Data) {
			q.keys = append(q.keys, plainKey{r.Data, r.Id})
		}
	}
}

func (q *plain) half() int { return (len(q.disk.bytes)/64 - 1) / 2 * 64 }

func (q *plain) begin(second bool) int {
	if second {
		return 64 + q.half()
	}
	return 64
}

// lay writes the sectors in which so many bytes from a place on lie, as they are in an image of the disk.
func (q *plain) lay(image []byte, at int, n int) bool {
	for i := at / 64; i <= (at+n-1)/64; i++ {
		if !q.disk.write(i, image[i*64:i*64+64]) {
			q.down = true
			return false
		}
	}
	return true
}

func (q *plain) appendFrame(f string) bool {
	at := q.begin(q.second) + q.tail
	image := slices.Clone(q.disk.bytes)
	copy(image[at:], f+"\x00")
	image[at] = 0
	if !q.lay(image, at, len(f)+1) {
		return false
	}
	image[at] = 0xe1
	if !q.lay(image, at, 1) {
		return false
	}
	q.tail += len(f)
	return true
}

func (q *plain) snapshot() string {
	s := ""
	for _, k := range q.keys {
		at := q.place(k.id)
		if at < 0 {
			s += plainFrame(rec(5, k.id, k.text))
			continue
		}
		s += plainFrame(plainPut(q.entries[at]))
		if q.entries[at].Sent {
			s += plainFrame(rec(2, k.id, ""))
		}
	}
	return s
}

func (q *plain) compact() bool {
	at := q.begin(!q.second)
	image := slices.Clone(q.disk.bytes)
	s := q.snapshot()
	copy(image[at:], s+"\x00")
	if !q.lay(image, at, len(s)+1) {
		return false
	}
	image[0] = 1
	if q.second {
		image[0] = 0
	}
	if !q.lay(image, 0, 1) {
		return false
	}
	q.second, q.tail = !q.second, len(s)
	return true
}

func (q *plain) log(r api.Rec) api.Errno {
	f := plainFrame(r)
	if q.tail+len(f)+1 > q.half() {
		if len(q.snapshot())+len(f)+1 > q.half() {
			return api.ErrFull
		}
		if !q.compact() {
			return api.ErrDown
		}
	}
	if !q.appendFrame(f) {
		return api.ErrDown
	}
	q.tell(r)
	return api.OK
}

func plainNew(p *plainDisk) (*plain, []api.Entry, api.Errno) {
	if p.down {
		return nil, nil, api.ErrDown
	}
	if len(p.bytes) < 9*64 {
		return nil, nil, api.ErrSmall
	}
	q := &plain{disk: p, second: p.bytes[0] != 0}
	l, tail := plainScan(p.bytes[q.begin(q.second):][:q.half()])
	q.tail = tail
	for _, r := range l {
		q.tell(r)
	}
	var lost []api.Entry
	for _, e := range q.entries {
		if e.Sent && !e.Custody {
			lost = append(lost, e)
		}
	}
	for _, e := range lost {
		if wrong := q.log(rec(4, e.Id, "")); wrong != api.OK {
			return nil, nil, wrong
		}
	}
	return q, lost, api.OK
}

func (q *plain) nextId() int {
	id := 0
	for _, k := range q.keys {
		id = max(id, k.id)
	}
	return id + 1
}

// room is how many bytes an entry more leaves free.
func (q *plain) room(e api.Entry) int {
	need := len(q.snapshot()) + len(plainFrame(plainPut(e))) + 28 + 1
	for _, other := range q.entries {
		need += 28
		if other.Sent {
			need -= 14
		}
	}
	return q.half() - need
}

func (q *plain) put(e api.Entry) (int, api.Errno) {
	if q.down {
		return 0, api.ErrDown
	}
	mine := e
	mine.Id = q.nextId()
	if e.Id != 0 || e.Sent || !plainRight(mine) {
		return 0, api.ErrEntry
	}
	if q.knows(e.Key) {
		return 0, api.ErrKnown
	}
	if len(q.keys) == 60 || q.room(mine) < 0 {
		return 0, api.ErrFull
	}
	if wrong := q.log(plainPut(mine)); wrong != api.OK {
		return 0, wrong
	}
	return mine.Id, api.OK
}

func (q *plain) change(op int, id int) api.Errno {
	at := q.place(id)
	switch {
	case q.down:
		return api.ErrDown
	case at < 0:
		return api.ErrNone
	case op == 2 && q.entries[at].Sent:
		return api.OK
	}
	return q.log(rec(op, id, ""))
}

func (q *plain) keyTexts() []string {
	var l []string
	for _, k := range q.keys {
		l = append(l, k.text)
	}
	return l
}
