package wal

import (
	"strings"

	"gaffer/api"
	"gaffer/disk"
	"gaffer/pack"
)

const (
	halves   = 2
	sizeBits = 32 // of the number of a snapshot's bytes, and of a log's
	halfAt   = 8  // where in a head the half's byte stands: behind the number
)

// head tells what counts: which half, how many bytes of snapshot, and how many of log behind them.
type head struct {
	number        uint64
	half          byte
	snapshot, log int
}

// used: the bytes of the half that count.
func (h head) used() int { return h.snapshot + h.log }

// other: the half that does not count.
func (h head) other() byte { return 1 - h.half }

// isLast: may no head follow?
func (h head) isLast() bool { return h.number >= api.MaxNumber }

// sector: the one that its number is for, so that the head ahead of it stays while it is written.
func (h head) sector() int { return int(h.number % api.HeadSectors) }

// bytes: as it lies in its sector.
func (h head) bytes() string {
	number := pack.Bits(h.number)
	// Two sizes of four bytes, the highest first, are the bits of both at once.
	sizes := pack.Bits(uint64(h.snapshot)<<sizeBits | uint64(h.log))
	front := number + string([]byte{h.half}) + sizes
	return front + strings.Repeat("\x00", api.SectorSize-len(front)-len(number)) + number
}

// parseHead: what a whole sector's front tells, right or not.
func parseHead(data string) head {
	number := pack.Read(data).Bits()
	sizes := pack.Read(data[halfAt+1:]).Bits()
	return head{number, data[halfAt], int(sizes >> sizeBits), int(sizes % (1 << sizeBits))}
}

// mayBe: as far as the head alone tells, of a half with so many bytes.
func (h head) mayBe(room int) bool {
	return 1 <= h.number && h.number <= api.MaxNumber && h.half < halves && h.snapshot <= api.MaxState && h.used() <= room
}

// log is a head that is right, and what it tells.
type log struct {
	head     head
	snapshot string
	records  []string
}

// find: the log of the head that counts.
func find(d *disk.Disk) (log, api.Errno) {
	switch {
	case d.Dead():
		return log{}, api.ErrDead
	case !fits(d):
		return log{}, api.ErrWalSize
	}
	best, e := log{}, api.ErrWalForm
	for sector := range api.HeadSectors {
		l, right := logOf(d, sector)
		if right && l.head.number > best.head.number {
			best, e = l, api.OK
		}
	}
	return best, e
}

// logOf: what the head on this sector tells; false, if it is not right.
func logOf(d *disk.Disk, sector int) (log, bool) {
	data, _ := d.Read(sector)
	h := parseHead(data)
	// A head that was torn, or that has other noughts or another end, is not what its own front would be laid as.
	if !h.mayBe(halfBytes(d)) || h.sector() != sector || h.bytes() != data {
		return log{}, false
	}
	stands := readBytes(d, firstSector(d, h.half), h.used())
	records, whole := unframe(stands[h.snapshot:])
	if !whole {
		return log{}, false
	}
	// A copy: the snapshot is not to hold the log's bytes.
	return log{h, strings.Clone(stands[:h.snapshot]), records}, true
}

// unframe: the records of a row of frames; false, if it is none.
func unframe(row string) ([]string, bool) {
	var l []string
	for r := pack.Read(row); r.Left() > 0; {
		record := r.Text(api.MaxRecord)
		if record == "" { // no record is empty, and what can't be read is answered so
			return nil, false
		}
		l = append(l, record)
	}
	return l, true
}

// frameBytes: how many the frame of a record of so many has.
func frameBytes(record int) int { return len(pack.Num(uint64(record))) + record }

func writeHead(d *disk.Disk, h head) api.Errno { return d.Write(h.sector(), h.bytes()) }
