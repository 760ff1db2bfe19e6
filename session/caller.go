package session

import "gaffer/api"

// Caller is the runner's side.
type Caller struct {
	underWay
	session  int // 0: none
	greatest int // of all sessions that it ever had: a Welcome that was held back tells none above it
	last     int // the number of the last request in the session
}

// NewCaller is one without a session, that says things anew after so many ticks.
func NewCaller(resend int) (*Caller, api.Errno) {
	if resend < 1 || resend > api.MaxResend {
		return nil, api.ErrSessionTimer
	}
	return &Caller{underWay: underWay{resend: resend}}, api.OK
}

// Hello gives up the session that it has, and wants another one.
func (c *Caller) Hello() api.Errno {
	if c.Busy() {
		return api.ErrSessionBusy
	}
	c.session = 0
	c.begin(api.Msg{Kind: api.MsgHello})
	return api.OK
}

// Ask sets a request under way, as the next one of the session.
func (c *Caller) Ask(m api.Msg) api.Errno {
	switch {
	case m.Kind != api.MsgPoll && m.Kind != api.MsgBeat && m.Kind != api.MsgDone:
		return api.ErrArg
	case c.Busy():
		return api.ErrSessionBusy
	case c.session == 0 || c.last == api.MaxNumber:
		return api.ErrSessionNone
	}
	c.last++
	m.Session, m.Number = c.session, c.last
	c.begin(m)
	return api.OK
}

// Hear takes a message for what it is to what is under way.
func (c *Caller) Hear(m api.Msg) int {
	what := c.means(m)
	switch what {
	case Nothing:
		return Nothing
	case Welcomed:
		c.session, c.greatest, c.last = m.Session, m.Session, 0
	case Lapsed:
		c.session = 0
	}
	c.end()
	return what
}

// Session is its number; 0: none.
func (c *Caller) Session() int { return c.session }

// Clone is one that goes its own way.
func (c *Caller) Clone() *Caller {
	own := *c
	return &own
}

// means changes nothing: what is made of it stands in Hear.
func (c *Caller) means(m api.Msg) int {
	switch {
	case c.hails() && m.Kind == api.MsgWelcome && m.Session > c.greatest:
		return Welcomed
	case c.awaits(m) && m.Kind == api.MsgStale:
		return Lapsed
	case c.awaits(m) && fits(c.msg.Kind, m.Kind):
		return Answered
	}
	return Nothing
}

// fits tells whether a reply of that kind is one to a request of that kind.
func fits(request, reply int) bool {
	switch reply {
	case api.MsgNone, api.MsgOffer:
		return request == api.MsgPoll
	case api.MsgRecorded:
		return request == api.MsgDone
	case api.MsgGone:
		if request == api.MsgDone {
			return true
		}
		fallthrough // the badge may be gone wherever it might have been alive
	case api.MsgAlive:
		return request == api.MsgBeat
	}
	return false
}
