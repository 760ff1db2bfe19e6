package num

import (
	"math"

	"gaffer/api"
)

// Floor: the greatest whole number that is not above it.
func Floor(a uint64) uint64 {
	return bitsOf(math.Floor(floatOf(a)))
}

// Int: the whole number that it is.
func Int(a uint64) (int64, api.Errno) {
	f := floatOf(a)
	// 2^63 - 1 is no float64, so the bound above is the first number past it; a NaN fails each comparison.
	if f >= -1<<63 && f < 1<<63 && f == math.Floor(f) {
		return int64(f), api.OK
	}
	return 0, api.ErrNumRange
}

// Of: the number nearest to a whole one.
func Of(n int64) uint64 {
	return bitsOf(float64(n))
}
