package judge

import (
	"slices"

	"dugout/api"
)

// Set returns the list with a judgment set.
func Set(plays []api.Play, l []api.Judgment, j api.Judgment) ([]api.Judgment, api.Errno) {
	g, e := judged(plays, l)
	if e != api.OK {
		return nil, e
	}
	return g.after(l, Act{Set: true, Judgment: j})
}

// Reverse returns the list with a judgment reversed.
func Reverse(plays []api.Play, l []api.Judgment, j api.Judgment) ([]api.Judgment, api.Errno) {
	g, e := judged(plays, l)
	if e != api.OK {
		return nil, e
	}
	return g.after(l, Act{Judgment: j})
}

// Replay returns the list after some acts.
func Replay(plays []api.Play, acts []Act) ([]api.Judgment, int, api.Errno) {
	g, e := newGame(plays)
	if e != api.OK {
		return nil, -1, e
	}
	if len(acts) > MaxActs {
		return nil, -1, api.ErrMany
	}
	var l []api.Judgment
	for i, a := range acts {
		if l, e = g.after(l, a); e != api.OK {
			return nil, i, e
		}
	}
	return l, -1, api.OK
}

// Differences returns the plays about which two lists differ.
func Differences(a, b []api.Judgment) []int {
	left, right := byPlays(a), byPlays(b)
	plays := transform(slices.Concat(a, b), func(j api.Judgment) int { return j.Play })
	slices.Sort(plays)
	return filter(slices.Compact(plays), func(play int) bool {
		return !slices.Equal(left[play], right[play])
	})
}

// after returns a list of judgments of a game after an act.
func (g game) after(l []api.Judgment, a Act) ([]api.Judgment, api.Errno) {
	if e := g.errorOf(a.Judgment); e != api.OK {
		return nil, e
	}
	if a.Set {
		return with(l, a.Judgment)
	}
	return without(l, a.Judgment)
}

func with(l []api.Judgment, j api.Judgment) ([]api.Judgment, api.Errno) {
	changed := slices.DeleteFunc(slices.Clone(l), func(x api.Judgment) bool { return x == j || Excludes(x, j) })
	if len(changed) == api.MaxJudgments {
		return nil, api.ErrMany
	}
	at, _ := slices.BinarySearchFunc(changed, j, compare)
	return slices.Insert(changed, at, j), api.OK
}

func without(l []api.Judgment, j api.Judgment) ([]api.Judgment, api.Errno) {
	at := slices.Index(l, j)
	if at < 0 {
		return nil, api.ErrNone
	}
	return slices.Delete(slices.Clone(l), at, at+1), api.OK
}
