package audit_test

import (
	"testing"

	"gaffer/api"
)

// The chapter's table of examples.
func TestExamples(t *testing.T) {
	s, g := submitted(1), func(b int) api.Event { return granted(1, b) }
	e := func(b, i int, text string) api.Event { return emitted(1, b, i, text) }
	x := func(b, n int) api.Event { return ended(1, b, n, seven) }
	r := func(b int) api.Event { return recorded(1, b, seven) }
	held := func(b, i int, texts ...string) api.Event { return stored(1, b, i, texts...) }
	tells(t, row())
	tells(t, row(s))
	tells(t, row(s, g(3)))
	tells(t, row(g(3)), fault(api.RuleHold, 0))
	tells(t, row(s, s), fault(api.RuleKeep, 1))
	tells(t, row(s, g(3), expired(1, 3), g(3)), fault(api.RuleRise, 3))
	tells(t, row(s, g(3), held(3, 0, "a")), fault(api.RulePrefix, 2))
	tells(t, row(s, g(3), e(3, 0, "a"), held(3, 0, "a")))
	tells(t, row(s, g(3), e(3, 0, "a"), held(3, 1, "a")), fault(api.RulePrefix, 3))
	tells(t, row(s, g(3), r(3)), fault(api.RuleReal, 2), fault(api.RuleWhole, 2))
	tells(t, row(s, g(3), x(3, 0), r(3), r(3)), fault(api.RuleOnce, 4))
	tells(t, row(s, g(3), e(3, 0, "a"), x(3, 1), r(3)), fault(api.RuleWhole, 4))
	tells(t, row(admitted(1, 3, 0, "")))
	tells(t, row(admitted(1, 3, 0, ""), admitted(1, 2, 0, "")), fault(api.RuleAdmit, 1))
	tells(t, row(admitted(1, 3, 1, "p")), fault(api.RuleAdmit, 0))
	tells(t, row(s, up(), shown(1, 0, api.Queued, zero)))
	tells(t, row(s, up(), down()), fault(api.RuleKeep, 2))
	tells(t, row(s, g(3), up(), shown(1, 3, api.Held, zero, "a")), fault(api.RulePrefix, 3))
	tells(t, row(up(), shown(1, 0, api.Queued, zero)))
	tells(t, row(shown(1, 0, api.Queued, zero)), fault(api.RuleKeep, 0))
}
