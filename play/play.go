// Package play describes single plays: their form, their notation as strings, their canonical form, and what can be counted in a play alone. See shared/doc/01-play.md.
package play

import "dugout/api"

// MaxMoves is the greatest number of moves of a play.
const MaxMoves = 4

// home is the base at which a run is made.
const home = 4

// first returns the first of some errors that is not OK.
func first(errors ...api.Errno) api.Errno {
	for _, e := range errors {
		if e != api.OK {
			return e
		}
	}
	return api.OK
}

// filter returns a new list of the elements that are to be kept.
func filter[T any](l []T, keep func(T) bool) []T {
	var kept []T
	for _, x := range l {
		if keep(x) {
			kept = append(kept, x)
		}
	}
	return kept
}

func within(n, low, high int) bool {
	return low <= n && n <= high
}
