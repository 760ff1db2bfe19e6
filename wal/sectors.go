package wal

import (
	"gaffer/api"
	"gaffer/disk"
)

// fits: two heads, and two halves of as many sectors as may be?
func fits(d *disk.Disk) bool {
	h := halfSectors(d)
	return 1 <= h && h <= api.MaxHalf && d.Size() == api.HeadSectors+halves*h
}

func halfSectors(d *disk.Disk) int { return (d.Size() - api.HeadSectors) / halves }

func halfBytes(d *disk.Disk) int { return halfSectors(d) * api.SectorSize }

func firstSector(d *disk.Disk, half byte) int { return api.HeadSectors + int(half)*halfSectors(d) }

// sectorsFor: noughts, as many whole sectors as so many bytes stand in.
func sectorsFor(bytes int) []byte {
	return make([]byte, (bytes+api.SectorSize-1)/api.SectorSize*api.SectorSize)
}

// cut: the k-th sector of a row of them. It ends with its own last byte: what is put there can't reach the next one.
func cut(b []byte, k int) []byte {
	from, to := k*api.SectorSize, (k+1)*api.SectorSize
	return b[from:to:to]
}

// readBytes: so many bytes, from the beginning of the sector first on.
func readBytes(d *disk.Disk, first, bytes int) string {
	b := sectorsFor(bytes)
	for k := range len(b) / api.SectorSize {
		data, _ := d.Read(first + k)
		copy(cut(b, k), data)
	}
	return string(b[:bytes])
}

// writeSectors: by rising numbers, till the power goes.
func writeSectors(d *disk.Disk, first int, b []byte) api.Errno {
	for k := range len(b) / api.SectorSize {
		if e := d.Write(first+k, string(cut(b, k))); e != api.OK {
			return e
		}
	}
	return api.OK
}
