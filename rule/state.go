package rule

import (
	"strings"

	"dugout/api"
	"dugout/play"
)

// Start returns the state before the first play.
func Start() State {
	return State{Inning: 1, Next: [2]int{1, 1}}
}

// CheckState returns the first error of a state, or OK.
func CheckState(s State) api.Errno {
	return firstError(s, checkInning, checkHalf, checkNumbers, checkEnd, checkRunners)
}

// Batter returns the slot of the batter.
func Batter(s State) (int, api.Errno) {
	if e := firstError(s, CheckState, checkOn); e != api.OK {
		return 0, e
	}
	return batter(s), api.OK
}

// Runners returns the slots of the runners from third base to first base, without empty bases.
func Runners(s State) ([]int, api.Errno) {
	if e := firstError(s, CheckState, checkOn); e != api.OK {
		return nil, e
	}
	var runners []int
	for i := range s.Bases {
		if slot := s.Bases[len(s.Bases)-1-i]; slot != 0 {
			runners = append(runners, slot)
		}
	}
	return runners, api.OK
}

// Count returns the count after some pitches, and the event that they ask for.
func Count(s State, pitches string) ([2]int, string, api.Errno) {
	if e := firstError(s, CheckState, checkOn); e != api.OK {
		return [2]int{}, "", e
	}
	counted, _, e := play.Count(s.Balls, s.Strikes, pitches)
	if e != api.OK {
		return [2]int{}, "", e
	}
	return counted, eventAsked(counted, pitches), api.OK
}

// Forced returns who has to move if the batter becomes a runner: the batter, and the runners on first, second and third base.
func Forced(s State) ([4]bool, api.Errno) {
	if e := firstError(s, CheckState, checkOn); e != api.OK {
		return [4]bool{}, e
	}
	return forced(s), api.OK
}

func checkInning(s State) api.Errno {
	if !within(s.Inning, 1, api.MaxExtra) {
		return api.ErrRange
	}
	return api.OK
}

func checkHalf(s State) api.Errno {
	if !within(s.Half, 0, 1) {
		return api.ErrSide
	}
	return api.OK
}

func checkNumbers(s State) api.Errno {
	right := within(s.Outs, 0, allOuts-1) && within(s.Balls, 0, maxBalls) && within(s.Strikes, 0, maxStrikes)
	for _, slot := range s.Bases {
		right = right && within(slot, 0, slots)
	}
	for side := range s.Next {
		right = right && within(s.Next[side], 1, slots) && within(s.Score[side], 0, MaxScore)
	}
	if !right {
		return api.ErrRange
	}
	return api.OK
}

func checkEnd(s State) api.Errno {
	if s.Over && !mayBeOver(s) || !s.Over && isDecided(s) {
		return api.ErrState
	}
	return api.OK
}

// checkRunners returns ErrOrder if the runners do not fit: each batter since a runner is on a lower base, or out.
func checkRunners(s State) api.Errno {
	lower, most := 0, -1
	for _, slot := range s.Bases {
		if slot == 0 {
			continue
		}
		turns := turnsSince(slot, batter(s))
		if !within(turns, lower, lower+s.Outs) || turns <= most {
			return api.ErrOrder
		}
		lower, most = lower+1, turns
	}
	return api.OK
}

func checkOn(s State) api.Errno {
	if s.Over {
		return api.ErrOver
	}
	return api.OK
}

func batter(s State) int {
	return s.Next[s.Half]
}

// behind returns the slot behind a slot.
func behind(slot int) int {
	return slot%slots + 1
}

// turnsSince returns how many turns there were between the one of a runner and the one of the batter.
func turnsSince(runner, batter int) int {
	slot := runner
	for turns := range slots {
		slot = behind(slot)
		if slot == batter {
			return turns
		}
	}
	return slots
}

func isDecided(s State) bool {
	return s.Inning >= api.MaxInnings && s.Half == 1 && homeLeads(s)
}

func mayBeOver(s State) bool {
	return s == cleared(s) && isLastHalf(s)
}

// isLastHalf reports whether the half of a state may be the last one of its game.
func isLastHalf(s State) bool {
	if s.Inning < api.MaxInnings {
		return false
	}
	return homeLeads(s) || s.Half == 1 && (s.Score[0] != s.Score[1] || s.Inning == api.MaxExtra)
}

func homeLeads(s State) bool {
	return s.Score[1] > s.Score[0]
}

// cleared returns a state without outs, count and runners.
func cleared(s State) State {
	s.Outs, s.Balls, s.Strikes, s.Bases = 0, 0, 0, [3]int{}
	return s
}

// eventAsked returns the event that pitches ask for, by the count after them.
func eventAsked(counted [2]int, pitches string) string {
	switch {
	case counted[1] > maxStrikes:
		return "K"
	case counted[0] > maxBalls:
		return "W"
	case strings.HasSuffix(pitches, "H"):
		return "H"
	case strings.HasSuffix(pitches, "X"):
		return "X"
	}
	return ""
}

func forced(s State) [4]bool {
	all := [4]bool{true}
	for i, slot := range s.Bases {
		if slot == 0 {
			break
		}
		all[i+1] = true
	}
	return all
}
