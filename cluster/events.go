package cluster

import "gaffer/api"

// changed is the events of the changes that a coordinator has made in its last call.
func changed(n coordNode) []api.Event {
	l := n.Told()
	if len(l) == 0 {
		return nil
	}
	v := n.View()
	var out []api.Event
	for _, c := range l {
		switch c.Kind {
		case api.ChReserve:
		case api.ChSubmit:
			out = append(out, api.Event{Kind: api.EvSubmitted, Job: c.Job})
		case api.ChGrant:
			holder := api.Addr{Node: api.NodeRunner + c.Slot, Life: c.Life}
			out = append(out, api.Event{Kind: api.EvGranted, Job: c.Job, Badge: c.Badge, Who: holder})
		default:
			out = append(out, underBadge(c, attempt(v, c.Badge)))
		}
	}
	return out
}

// attempt is the job whose last badge that is.
func attempt(v api.View, badge int) api.Place {
	for _, p := range v.Jobs {
		if p.Row.Badge == badge {
			return p
		}
	}
	return api.Place{}
}

// underBadge is the event of a change that names its job by the badge alone. One call makes one change of a job at most, so the job stands as this one has left it.
func underBadge(c api.Change, p api.Place) api.Event {
	e := api.Event{Job: p.Row.Job, Badge: c.Badge}
	switch {
	case c.Kind == api.ChLog:
		e.Kind, e.Index, e.Texts = api.EvStored, len(p.Log)-len(c.Texts), c.Texts
	case c.Kind == api.ChSettle:
		e.Kind, e.Result = api.EvRecorded, c.Result
	case p.Row.Status == api.Lost:
		e.Kind = api.EvLost
	default:
		e.Kind = api.EvExpired
	}
	return e
}

// shown is how a coordinator that was started shows its jobs.
func shown(v api.View) []api.Event {
	var out []api.Event
	for _, p := range v.Jobs {
		out = append(out, api.Event{
			Kind: api.EvShown, Job: p.Row.Job, Badge: p.Row.Badge,
			Status: p.Row.Status, Result: p.Row.Result, Texts: p.Log,
		})
	}
	return out
}
