package meter

import (
	"riddle/api"
)

// All errors that can be crossed have room in so many bits.
const (
	crossedBits = 8
	crossedMask = 1<<crossedBits - 1
)

// A tally is what was counted, and what was crossed.
type tally struct {
	counted int
	crossed api.Errno
}

func unpacked(word int64) tally {
	return tally{int(word >> crossedBits), api.Errno(word & crossedMask)}
}

func (t tally) packed() int64 {
	return int64(t.counted)<<crossedBits | int64(t.crossed)
}

// cross is the tally, over for good, and why.
func (t tally) cross(e api.Errno) (tally, api.Errno) {
	t.crossed = e
	return t, e
}

// count is the tally with n more, n not below 0; if that is more than nodes, none of them is counted.
func (t tally) count(n, nodes int) (tally, api.Errno) {
	// A sum could wrap round; what is left can't.
	if n > nodes-t.counted {
		return t.cross(api.ErrNodes)
	}
	t.counted += n
	return t, api.OK
}
