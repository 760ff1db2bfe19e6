package measure_test

import (
	"testing"

	"gaffer/api"
	"gaffer/measure"
)

// The chapter's table of examples.
func TestExamples(t *testing.T) {
	if n, e := measure.Full(config()); n != 2104 || e != api.OK {
		t.Errorf("Full: %d, %v", n, e)
	}
	x := fleet(t, config())
	units(t, x, 1)
	of(t, x, 0)
	do(x, submits(packed("fuel 1; halt")))
	units(t, x, 2*2104+1)
	of(t, x, 4209*6+2)
	for _, n := range []int{0, 2} {
		y := x.Clone()
		do(y, crashes(n))
		isDown(t, y)
	}
}
