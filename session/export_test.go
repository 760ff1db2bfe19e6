package session

// The last number that may be is 2^40: no test could ask its way there, so these two set it.

func (c *Caller) SetLast(n int) { c.last = n }

func (t *Table) SetLast(slot, n int) { t.desks[slot].Last = n }
