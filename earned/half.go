package earned

import (
	"slices"

	"dugout/api"
	"dugout/judge"
	"dugout/rule"
)

// half is a half inning as it was in fact, with the judgments about it. Its runners are numbered from 1 on.
type half struct {
	plays    []api.Play
	complete []api.Judgment // the complete list
	entries  []int          // the plays before which the pitchers come in: 0, and the relief
	states   []rule.State   // before each play, and after the last one
	turns    []int          // how many are completed before each play, and after the last one
	runners  []Runner
}

// CheckHalf returns the first error of a half, or OK.
func CheckHalf(h Half) api.Errno {
	_, e := newHalf(h)
	return e
}

// Split returns the halves of a game.
func Split(plays []api.Play, l []api.Judgment, relief []int) ([]Half, api.Errno) {
	parts, e := rule.Halves(plays)
	if e != api.OK {
		return nil, e
	}
	_, e = judge.Complete(plays, l)
	if e = first(e, checkRelief(relief, 0, len(plays)-1)); e != api.OK {
		return nil, e
	}
	return transform(parts, func(part rule.Half) Half { return cut(plays, l, relief, part) }), api.OK
}

// Runners returns the runners of a half.
func Runners(h Half) ([]Runner, api.Errno) {
	facts, e := newHalf(h)
	return facts.runners, e
}

// Bases returns who is on the bases before each play, and after the last one.
func Bases(h Half) ([][3]int, api.Errno) {
	facts, e := newHalf(h)
	if e != api.OK {
		return nil, e
	}
	bases := make([][3]int, len(facts.states))
	for at := range bases {
		bases[at] = facts.bases(at)
	}
	return bases, api.OK
}

// Runs returns the runners who have runs.
func Runs(h Half) ([]int, api.Errno) {
	facts, e := newHalf(h)
	if e != api.OK {
		return nil, e
	}
	return facts.runs(), api.OK
}

// newHalf returns a half if it is one. Beside an error it is empty.
func newHalf(h Half) (half, api.Errno) {
	states, _, _, e := rule.Replay(h.Plays)
	if e = first(e, checkFirst(states)); e != api.OK {
		return half{}, e
	}
	complete, e := judge.Complete(h.Plays, h.Judgments)
	if e = first(e, checkRelief(h.Relief, 1, len(h.Plays)-1)); e != api.OK {
		return half{}, e
	}
	facts := half{plays: h.Plays, complete: complete, entries: slices.Concat([]int{0}, h.Relief), states: states, turns: []int{0}}
	for at := range h.Plays {
		facts.follow(at)
	}
	return facts, api.OK
}

// checkFirst returns ErrOver if a play is not one of the first half of its game; the first one of these is one of the second half. The last state is the one behind the plays.
func checkFirst(states []rule.State) api.Errno {
	for i, s := range states {
		isBeforePlay := i < len(states)-1
		if isBeforePlay && s.Half != 0 {
			return api.ErrOver
		}
	}
	return api.OK
}

// checkRelief returns the first error of the plays before which pitchers come in.
func checkRelief(relief []int, low, high int) api.Errno {
	for i, at := range relief {
		switch {
		case !within(at, low, high):
			return api.ErrRange
		case i > 0 && at <= relief[i-1]:
			return api.ErrOrder
		}
	}
	return api.OK
}

// cut returns a part of a game as a half of its own.
func cut(plays []api.Play, l []api.Judgment, relief []int, part rule.Half) Half {
	isOwn := func(j api.Judgment) bool { return within(j.Play, part.From, part.To-1) }
	isLater := func(at int) bool { return within(at, part.From+1, part.To-1) }
	return Half{
		Plays: transform(plays[part.From:part.To], clone),
		Judgments: transform(filter(l, isOwn), func(j api.Judgment) api.Judgment {
			j.Play -= part.From
			return j
		}),
		Relief: transform(filter(relief, isLater), func(at int) int { return at - part.From }),
	}
}

// clone returns a play that shares no memory with another one.
func clone(p api.Play) api.Play {
	p.Moves = transform(p.Moves, func(m api.Move) api.Move {
		m.By = slices.Clone(m.By)
		return m
	})
	return p
}

// follow adds what a play does to the runners.
func (h *half) follow(at int) {
	p := h.plays[at]
	if p.Event != "" {
		h.runners = append(h.runners, Runner{Turn: at, Run: none, Out: none})
	}
	h.turns = append(h.turns, len(h.runners))
	scored, _ := rule.Scored(h.states[at], p) // all runs of a play count, or none
	for _, m := range p.Moves {
		r := &h.runners[h.number(at, m.From)-1]
		switch {
		case m.Out:
			r.Out = at
		case m.To == home && len(scored) > 0:
			r.Run = at
		}
	}
}

// number returns the number of who begins a play on a base, or of its batter (0).
func (h half) number(at, from int) int {
	if from == 0 {
		return h.turns[at] + 1
	}
	return h.bases(at)[from-1]
}

// bases returns the numbers of the runners before a play. A runner on a base is always the last one so far of his slot.
func (h half) bases(at int) [3]int {
	var numbers [3]int
	for i, slot := range h.states[at].Bases {
		if slot != 0 {
			numbers[i] = h.turns[at] - (h.turns[at]-slot)%slots
		}
	}
	return numbers
}

// isThere reports whether a runner is on a base before a play.
func (h half) isThere(n, at int) bool {
	return slices.Contains(h.there(at), n)
}

// there returns the runners who are on bases before a play.
func (h half) there(at int) []int {
	bases := h.bases(at)
	return filter(bases[:], func(n int) bool { return n != 0 })
}

func (h half) runs() []int {
	numbers := make([]int, len(h.runners))
	for i := range len(numbers) {
		numbers[i] = i + 1
	}
	return filter(numbers, h.hasRun)
}

func (h half) hasRun(n int) bool {
	return h.runners[n-1].Run != none
}

func (h half) checkRunner(n int) api.Errno {
	if !within(n, 1, len(h.runners)) {
		return api.ErrUnknown
	}
	return api.OK
}
