package coord

import (
	"gaffer/api"
	"gaffer/disk"
)

const halves = 2 // of a log, on its disk

// Check tells whether a config may be.
func Check(c api.Config) api.Errno {
	for _, x := range []struct{ number, least, most int }{
		{c.Runners, 1, api.MaxRunners},
		{c.Lease, 1, api.MaxLease},
		{c.Resend, 1, api.MaxResend},
		{c.Attempts, 1, api.MaxAttempts},
		{c.Window, 1, api.MaxWindow},
		{c.Quantum, 1, api.MaxQuantum},
		{c.Block, 1, api.MaxBlock},
		{c.Every, 1, api.MaxEvery},
		{c.Half, api.MinHalf, api.MaxHalf},
	} {
		if x.number < x.least || x.number > x.most {
			return api.ErrCoordConfig
		}
	}
	return api.OK
}

// checkDisk tells whether a config may be, and the disk is its own.
func checkDisk(c api.Config, d *disk.Disk) api.Errno {
	if d.Size() != api.HeadSectors+halves*c.Half {
		return api.ErrCoordConfig
	}
	return Check(c)
}

// isRunner tells whether an address is one of a config's runners.
func isRunner(c api.Config, a api.Addr) bool {
	slot := slotOf(a)
	return slot >= 0 && slot < c.Runners && a.Life >= 1 && a.Life <= api.MaxNumber
}

func slotOf(a api.Addr) int { return a.Node - api.NodeRunner }
