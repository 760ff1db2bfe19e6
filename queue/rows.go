package queue

import "gaffer/api"

// askAll is how every question about all rows is asked: each row is told what those ahead of it have made of the answer.
func askAll[T any](rows []api.Row, answer T, ask func(T, api.Row) T) T {
	for _, r := range rows {
		answer = ask(answer, r)
	}
	return answer
}

func greatestBadge(rows []api.Row) int {
	return askAll(rows, 0, func(greatest int, r api.Row) int { return max(greatest, r.Badge) })
}

func copied(rows []api.Row) []api.Row {
	l := make([]api.Row, len(rows))
	copy(l, rows)
	return l
}

func holderMayBe(a api.Addr) bool {
	return a.Node >= api.NodeRunner && a.Node < api.NodeRunner+api.MaxRunners && a.Life >= 1 && a.Life <= api.MaxNumber
}

func resultMayBe(x api.Result) bool {
	return x.Code == api.TrapNone || x.Code >= 1 && x.Code <= api.TrapFail && x.Bits == 0
}

func rowsMayBe(most int, l []api.Row) bool {
	if len(l) > api.MaxJobs {
		return false
	}
	// A row that may not be is not counted, so the count falls behind for good.
	good := askAll(l, 0, func(good int, r api.Row) int {
		if r == formed(good+1, r) && statusMayBe(most, r) && badgeMayBe(r) && !shared(l, r) {
			return good + 1
		}
		return good
	})
	return good == len(l)
}

// formed is the row of that job with no more of r than its Status lets it have: a row is in its form if it is the same.
func formed(job int, r api.Row) api.Row {
	f := api.Row{Job: job, Status: r.Status, Attempts: r.Attempts, Badge: r.Badge}
	switch r.Status {
	case api.Held:
		f.Holder = r.Holder
	case api.Recorded:
		f.Result = r.Result
	}
	return f
}

func statusMayBe(most int, r api.Row) bool {
	begun := r.Attempts >= 1 && r.Attempts <= most
	switch r.Status {
	case api.Queued:
		return r.Attempts >= 0 && r.Attempts < most
	case api.Held:
		return begun && holderMayBe(r.Holder)
	case api.Recorded:
		return begun && resultMayBe(r.Result)
	case api.Lost:
		return r.Attempts == most
	}
	return false
}

func badgeMayBe(r api.Row) bool {
	if r.Attempts == 0 {
		return r.Badge == 0
	}
	return r.Badge >= 1 && r.Badge <= api.MaxNumber
}

// shared tells whether another row has the same Badge. A row that is the same as r does not count: it is r itself, or its Job is not in order.
func shared(l []api.Row, r api.Row) bool {
	return r.Badge > 0 && askAll(l, false, func(found bool, other api.Row) bool {
		return found || other != r && other.Badge == r.Badge
	})
}
