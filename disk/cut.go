package disk

import "gaffer/api"

// Cut is what stands behind the first n of some writes, and so many bytes of the next one.
func Cut(base []string, raw []api.Write, n, bytes int) ([]string, api.Errno) {
	if e := checkCut(base, raw, n, bytes); e != api.OK {
		return nil, e
	}
	d := loaded(base)
	for _, w := range raw[:n] {
		d.lay(w.Sector, w.Data)
	}
	if n < len(raw) {
		d.lay(raw[n].Sector, raw[n].Data[:bytes])
	}
	return d.Sectors(), api.OK
}

// checkCut asks of all writes for their sectors ahead of the first size: so the promise names the errors.
func checkCut(base []string, raw []api.Write, n, bytes int) api.Errno {
	if !mayHave(len(base)) {
		return api.ErrDiskSector
	}
	for _, w := range raw {
		if !oneOf(w.Sector, len(base)) {
			return api.ErrDiskSector
		}
	}
	if !allWhole(base) {
		return api.ErrDiskSize
	}
	for _, w := range raw {
		if !whole(w.Data) {
			return api.ErrDiskSize
		}
	}
	if !oneOf(n, len(raw)+1) || !partOfSector(bytes) || n == len(raw) && bytes != 0 {
		return api.ErrDiskCut
	}
	return api.OK
}
