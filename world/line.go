package world

import "gaffer/api"

// Line is an event as words; that of no kind has none.
func Line(e api.Event) string {
	switch e.Kind {
	case api.EvRefused:
		return line("refused", numbers(int(e.Code)))
	case api.EvSubmitted:
		return line("submitted", numbers(e.Job))
	case api.EvDown:
		return line("down", address(e.Who))
	case api.EvUp:
		return line("up", address(e.Who))
	case api.EvGranted:
		return line("granted", numbers(e.Job, e.Badge), address(e.Who))
	case api.EvExpired:
		return line("expired", numbers(e.Job, e.Badge))
	case api.EvLost:
		return line("lost", numbers(e.Job, e.Badge))
	case api.EvStored:
		return line("stored", numbers(e.Job, e.Badge, e.Index), texts(e.Texts...))
	case api.EvRecorded:
		return line("recorded", numbers(e.Job, e.Badge), result(e.Result))
	case api.EvEmitted:
		return line("emitted", address(e.Who), numbers(e.Job, e.Badge, e.Index), texts(e.Text))
	case api.EvWrote:
		return line("wrote", address(e.Who), numbers(e.Job, e.Badge, e.Index), texts(e.Text))
	case api.EvEnded:
		return line("ended", address(e.Who), numbers(e.Job, e.Badge, e.Count), result(e.Result))
	case api.EvAdmitted:
		return line("admitted", numbers(e.Job, e.Badge, e.Index), texts(e.Text))
	case api.EvShown:
		return line("shown", numbers(e.Job, e.Badge, e.Status), result(e.Result), texts(e.Texts...))
	}
	return ""
}
