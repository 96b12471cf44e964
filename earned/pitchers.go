package earned

import (
	"slices"

	"dugout/api"
	"dugout/play"
)

// maxTotal is the greatest number of earned runs, and of outs, of an average.
const maxTotal = 1000000

// outsOfGame is the number of outs that an average is for.
const outsOfGame = 27

// choice is the kind of judgment by which a runner takes over the charge of another one.
const choice = "choice"

// Pitcher returns the pitcher of a play.
func Pitcher(h Half, play int) (int, api.Errno) {
	facts, e := newHalf(h)
	if e = first(e, checkRange(play, 0, len(h.Plays)-1)); e != api.OK {
		return 0, e
	}
	return facts.pitcher(play), api.OK
}

// Charges returns the pitchers to whom the runners are charged.
func Charges(h Half) ([]int, api.Errno) {
	facts, e := newHalf(h)
	return facts.charges(), e
}

// Lines returns what each pitcher is charged with.
func Lines(h Half) ([]Line, api.Errno) {
	r, e := newReview(h, 0)
	if e != api.OK {
		return nil, e
	}
	charges := r.charges()
	var lines []Line
	for k := range r.entries {
		lines = append(lines, r.line(k, charges))
	}
	return lines, api.OK
}

// Team returns the runs and the earned runs of the side.
func Team(h Half) (Line, api.Errno) {
	r, e := newReview(h, 0)
	if e != api.OK {
		return Line{}, e
	}
	return Line{Runs: len(r.runs()), Earned: len(r.earned(nil))}, api.OK
}

// Average returns 27 times the earned runs, divided by the outs.
func Average(earned, outs int) (api.Ratio, api.Errno) {
	if e := first(checkRange(earned, 0, maxTotal), checkRange(outs, 0, maxTotal)); e != api.OK {
		return api.Ratio{}, e
	}
	return play.Rate(outsOfGame*earned, outs)
}

// pitcher returns the pitcher of a play: the last one who has come in.
func (h half) pitcher(at int) int {
	return len(filter(h.entries, func(entry int) bool { return entry <= at })) - 1
}

// charges returns for each runner the pitcher to whom he is charged.
func (h half) charges() []int {
	pitchers := transform(h.runners, func(r Runner) int { return h.pitcher(r.Turn) })
	charges := slices.Clone(pitchers)
	for _, j := range h.complete {
		if j.Kind == choice {
			n := h.number(j.Play, 0)
			charges[n-1] = h.takenOver(j.Play, pitchers[n-1], charges)
		}
	}
	return charges
}

// takenOver returns the pitcher to whom the batter of a play is charged by a choice. If all who are out are charged to the pitcher of the play, which is his own, it is this one.
func (h half) takenOver(at, own int, charges []int) int {
	for _, m := range h.plays[at].Moves {
		if charged := charges[h.number(at, m.From)-1]; m.Out && charged != own {
			return charged
		}
	}
	return own
}

// line returns what a pitcher is charged with.
func (r review) line(k int, charges []int) Line {
	r.from = r.entries[k]
	isOwn := func(n int) bool { return charges[n-1] == k }
	l := Line{From: r.from, Runs: len(filter(r.runs(), isOwn)), Earned: len(filter(r.earned(nil), isOwn))}
	if k > 0 {
		inherited := r.there(r.from)
		l.Inherited, l.Scored = len(inherited), len(filter(inherited, r.hasRun))
	}
	return l
}
