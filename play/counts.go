package play

import (
	"maps"
	"slices"

	"dugout/api"
)

// The numbers that complete a count.
const (
	allBalls   = 4
	allStrikes = 3
)

// Count returns the balls and strikes after pitches, or the index of the first pitch that is too many.
func Count(balls, strikes int, pitches string) ([2]int, int, api.Errno) {
	if !within(balls, 0, allBalls-1) || !within(strikes, 0, allStrikes-1) {
		return [2]int{}, 0, api.ErrRange
	}
	if len(pitches) > api.MaxPitches {
		return [2]int{}, 0, api.ErrMany
	}
	count, complete := [2]int{balls, strikes}, false
	for i, r := range pitches {
		if complete || !isPitch(r) {
			return [2]int{}, i, api.ErrPitch
		}
		count = addPitch(count, r)
		complete = count[0] == allBalls || count[1] == allStrikes || isLastPitch(r)
	}
	return count, 0, api.OK
}

func addPitch(count [2]int, pitch rune) [2]int {
	switch pitch {
	case 'B':
		count[0]++
	case 'C', 'S':
		count[1]++
	case 'F':
		if count[1] < allStrikes-1 {
			count[1]++
		}
	}
	return count
}

// Outs returns the number of outs of a play.
func Outs(p api.Play) (int, api.Errno) {
	if e := CheckPlay(p); e != api.OK {
		return 0, e
	}
	return len(filter(p.Moves, isOut)), api.OK
}

// Runs returns the number of runners who reach home in a play.
func Runs(p api.Play) (int, api.Errno) {
	if e := CheckPlay(p); e != api.OK {
		return 0, e
	}
	return len(filter(p.Moves, isRun)), api.OK
}

// Advances returns the number of bases that the runners of a play gain.
func Advances(p api.Play) (int, api.Errno) {
	if e := CheckPlay(p); e != api.OK {
		return 0, e
	}
	bases := 0
	for _, m := range p.Moves {
		if !m.Out {
			bases += m.To - m.From
		}
	}
	return bases, api.OK
}

// MoveOf returns the move of a runner in a play.
func MoveOf(p api.Play, from int) (api.Move, api.Errno) {
	if e := first(CheckPlay(p), checkFrom(from)); e != api.OK {
		return api.Move{}, e
	}
	for _, m := range p.Moves {
		if m.From == from {
			m.By = slices.Clone(m.By)
			return m, api.OK
		}
	}
	return api.Move{}, api.ErrNone
}

// Touches returns how often each fielder touched the ball.
func Touches(p api.Play) ([9]int, api.Errno) {
	if e := CheckPlay(p); e != api.OK {
		return [9]int{}, e
	}
	var times [9]int
	for _, m := range p.Moves {
		for _, fielder := range m.By {
			times[fielder-1]++
		}
	}
	return times, api.OK
}

// Putouts returns the fielders who made the outs of a play.
func Putouts(p api.Play) ([]int, api.Errno) {
	if e := CheckPlay(p); e != api.OK {
		return nil, e
	}
	var fielders []int
	for _, m := range filter(p.Moves, isOut) {
		fielders = append(fielders, lastToucher(m))
	}
	return fielders, api.OK
}

// Assists returns the fielders who helped with an out of a play.
func Assists(p api.Play, from int) ([]int, api.Errno) {
	m, e := MoveOf(p, from)
	if e != api.OK {
		return nil, e
	}
	if !m.Out {
		return nil, api.ErrMove
	}
	helped := map[int]bool{}
	for _, fielder := range m.By {
		if fielder != lastToucher(m) {
			helped[fielder] = true
		}
	}
	return slices.Sorted(maps.Keys(helped)), api.OK
}

// lastToucher returns the fielder who made an out, which has at least one touch.
func lastToucher(out api.Move) int {
	return out.By[len(out.By)-1]
}

func isOut(m api.Move) bool {
	return m.Out
}

func isRun(m api.Move) bool {
	return !m.Out && m.To == home
}
