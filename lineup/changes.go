package lineup

import (
	"slices"

	"dugout/api"
)

// Swap returns teams and changes with both sides exchanged.
func Swap(t Teams, l []Change) (Teams, []Change, api.Errno) {
	if e := CheckChanges(t, l); e != api.OK {
		return Teams{}, nil, e
	}
	swapped := slices.Clone(l)
	for i := range swapped {
		swapped[i].Side = 1 - swapped[i].Side
	}
	slices.SortFunc(swapped, compare)
	return Teams{t[1], t[0]}, swapped, api.OK
}

// Split returns the teams at a play and the changes from it on.
func Split(t Teams, l []Change, play int) (Teams, []Change, api.Errno) {
	if e := firstError(CheckChanges(t, l), checkIndex(play)); e != api.OK {
		return Teams{}, nil, e
	}
	n := madeBefore(l, play)
	rest := transform(l[n:], func(c Change) Change {
		c.Play -= play
		return c
	})
	return allMade(t, l[:n]), rest, api.OK
}
