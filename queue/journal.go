package queue

import (
	"postrider/api"
	"postrider/disk"
	"postrider/frame"
)

// end is what stands behind a log: no frame begins so.
const end = "\x00"

// journal is where a log lies on a disk: in which area, and how far. Sector 0 says which one that is.
type journal struct {
	device *disk.Disk
	area   int
	tail   int
	down   bool
}

// frames are those of right records.
func frames(records ...api.Rec) string {
	s, _ := frame.Lay(records)
	return s
}

// sectors is how many an area has.
func (j *journal) sectors() int { return (j.device.Sectors() - 1) / 2 }

// size is how many bytes an area has.
func (j *journal) size() int { return j.sectors() * api.Sector }

// begin is the place on the disk where an area begins.
func (j *journal) begin(area int) int { return api.Sector + area*j.size() }

// fits tells whether a frame, and an end behind it, have room from a place of the area on.
func (j *journal) fits(at int, record string) bool { return at+len(record)+len(end) <= j.size() }

// read finds the log, and tells its records.
func (j *journal) read() []api.Rec {
	if sign, _ := j.device.Bytes(0, 1); sign != "\x00" {
		j.area = 1
	}
	s, _ := j.device.Bytes(j.begin(j.area), j.size())
	records, tail := frame.Scan(s)
	j.tail = tail
	return records
}

// extend appends a frame that fits. The log ends where it did till the frame's first byte is written, behind all others.
func (j *journal) extend(record string) error {
	at := j.begin(j.area) + j.tail
	sectors := reached(at, record+end)
	if wrong := j.lay(at, end+record[1:]+end, sectors...); wrong != nil {
		return wrong
	}
	if wrong := j.lay(at, record[:1], sectors[0]); wrong != nil {
		return wrong
	}
	j.tail += len(record)
	return nil
}

// compact writes a snapshot into the other area, and then says that this is in use.
func (j *journal) compact(snapshot string) error {
	other := 1 - j.area
	at := j.begin(other)
	if wrong := j.lay(at, snapshot+end, reached(at, snapshot+end)...); wrong != nil {
		return wrong
	}
	if wrong := j.lay(0, string([]byte{byte(other)}), 0); wrong != nil {
		return wrong
	}
	j.area, j.tail = other, len(snapshot)
	return nil
}

// reached are the sectors in which s lies, from a place on the disk on.
func reached(at int, s string) []int {
	var list []int
	for i := at / api.Sector; i*api.Sector < at+len(s); i++ {
		list = append(list, i)
	}
	return list
}

// lay writes the sectors with what lies in each of them of s, from a place on the disk on; all else in them stays.
func (j *journal) lay(at int, s string, sectors ...int) error {
	for _, i := range sectors {
		if e := j.device.Write(i, j.laid(at, s, i)); e != api.OK {
			j.down = e == api.ErrDown
			return refusal{e}
		}
	}
	return nil
}

// laid are a sector's bytes with what lies in it of s.
func (j *journal) laid(at int, s string, i int) string {
	// If the disk is down nothing is read, and nothing will be written: the write tells so.
	old, _ := j.device.Read(i)
	var bytes [api.Sector]byte
	copy(bytes[:], old)
	begin := i * api.Sector
	copy(bytes[max(at-begin, 0):], s[max(begin-at, 0):])
	return string(bytes[:])
}
