package session

import "gaffer/api"

// underWay is what was said, or is to be said, and has no answer yet.
type underWay struct {
	resend int
	timer  int     // above 0 only while something is under way
	msg    api.Msg // of the Kind 0: nothing is under way
}

// Tick brings it nearer to being said anew.
func (u *underWay) Tick() {
	if u.timer > 0 {
		u.timer--
	}
}

// Due is what is to be said now.
func (u *underWay) Due() (api.Msg, bool) {
	if !u.Busy() || u.timer > 0 {
		return api.Msg{}, false
	}
	u.timer = u.resend
	return u.msg, true
}

// Waits is the number of the request that is under way: a Hello has the Number 0, as nothing has.
func (u *underWay) Waits() int { return u.msg.Number }

// Busy tells whether something is under way.
func (u *underWay) Busy() bool { return u.msg.Kind != 0 }

// Timer is how many ticks are left until it is said anew.
func (u *underWay) Timer() int { return u.timer }

// begin has it said at once.
func (u *underWay) begin(m api.Msg) { u.msg, u.timer = m, 0 }

func (u *underWay) end() { u.begin(api.Msg{}) }

// hails tells whether a Hello is under way.
func (u *underWay) hails() bool { return u.msg.Kind == api.MsgHello }

// awaits tells whether a message bears the session and the number of a request that is under way.
func (u *underWay) awaits(m api.Msg) bool {
	return u.Waits() != 0 && m.Session == u.msg.Session && m.Number == u.msg.Number
}
