package earned

import (
	"cmp"

	"dugout/api"
)

// maxBases is the greatest number of bases of an extra.
const maxBases = 3

// Doubts returns the doubts of the reconstruction from a play.
func Doubts(h Half, from int) ([]Extra, api.Errno) {
	r, e := newReview(h, from)
	if e != api.OK {
		return nil, e
	}
	var doubts []Extra
	for s := range r.scenes(nil) {
		doubts = append(doubts, s.doubts...)
	}
	return doubts, api.OK
}

// Reckon returns the runners whose runs are earned from a play, with extras.
func Reckon(h Half, from int, l []Extra) ([]int, api.Errno) {
	r, e := newReview(h, from)
	if e = first(e, r.checkExtras(l)); e != api.OK {
		return nil, e
	}
	return r.earned(l), api.OK
}

// compare compares extras by their order.
func compare(a, b Extra) int {
	return cmp.Or(cmp.Compare(a.Play, b.Play), cmp.Compare(a.Runner, b.Runner))
}

func (h half) checkExtras(l []Extra) api.Errno {
	if len(l) > api.MaxList {
		return api.ErrMany
	}
	for i, x := range l {
		inRange := first(checkRange(x.Play, 0, len(h.plays)-1), checkRange(x.Bases, 0, maxBases))
		if e := first(inRange, h.checkRunner(x.Runner), follows(l[:i], x)); e != api.OK {
			return e
		}
	}
	return api.OK
}

// follows returns ErrOrder if an extra does not come after the last one of those before it.
func follows(before []Extra, x Extra) api.Errno {
	if n := len(before); n > 0 && compare(before[n-1], x) >= 0 {
		return api.ErrOrder
	}
	return api.OK
}
