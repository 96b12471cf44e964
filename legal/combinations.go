package legal

import (
	"iter"
	"slices"
	"strings"

	"dugout/api"
	"dugout/play"
	"dugout/rule"
)

// option is what one of those who may move does: a move, or nothing.
type option struct {
	moves bool
	move  api.Move
}

// choice has the index of an option for each of those who may move, in their order.
type choice [play.MaxMoves]int

// movers returns the bases of those who may move: the runners, from third base to first base, and the batter, if his turn ends.
func movers(s rule.State, event string) []int {
	var bases []int
	for i := range s.Bases {
		base := len(s.Bases) - i
		if s.Bases[base-1] != 0 {
			bases = append(bases, base)
		}
	}
	if event != "" {
		bases = append(bases, 0)
	}
	return bases
}

// options returns the options of a family for one who may move.
func options(f Family, from int) []option {
	list := []option{{}}
	for to := from + 1; to <= home; to++ {
		for _, way := range f.Safe {
			list = append(list, option{true, api.Move{From: from, To: to, How: string(way)}})
		}
	}
	for to := max(from, 1); to <= home; to++ {
		for _, way := range f.Outs {
			list = append(list, option{true, api.Move{From: from, To: to, Out: true, How: string(way), By: f.By}})
		}
	}
	return list
}

// size returns the number of combinations of a family in a state.
func size(s rule.State, f Family) int {
	n := 0
	for _, event := range f.Events {
		product := 1
		for _, from := range movers(s, event) {
			product *= len(options(f, from))
		}
		n += product
	}
	return n * len(f.Pitches) * len(lates(f))
}

// lates returns the values of Late in the plays of a family.
func lates(f Family) []bool {
	if f.Late {
		return []bool{false, true}
	}
	return []bool{false}
}

// heads visits the plays of a family without their moves.
func heads(f Family) iter.Seq[api.Play] {
	return func(yield func(api.Play) bool) {
		for _, pitches := range f.Pitches {
			for _, event := range f.Events {
				for _, late := range lates(f) {
					if !yield(api.Play{Pitches: pitches, Event: event, Late: late}) {
						return
					}
				}
			}
		}
	}
}

// candidates visits the combinations of a family in a state that have the form of plays. These are all choices among the options that have the form of moves: nothing else can be wrong in a combination.
func candidates(s rule.State, f Family) iter.Seq[api.Play] {
	return func(yield func(api.Play) bool) {
		for head := range heads(f) {
			var lists [][]option
			for _, from := range movers(s, head.Event) {
				lists = append(lists, filter(options(f, from), func(o option) bool {
					return !o.moves || play.CheckMove(o.move) == api.OK
				}))
			}
			for c := range choices(lists) {
				if !yield(chosen(head, lists, c)) {
					return
				}
			}
		}
	}
}

// choices visits the choices among lists of options, by the option of the first list, then by that of the next one.
func choices(lists [][]option) iter.Seq[choice] {
	return func(yield func(choice) bool) {
		var c choice
		for more := true; more; c, more = c.behind(lists) {
			if !yield(c) {
				return
			}
		}
	}
}

// behind returns the choice behind one, if there is one.
func (c choice) behind(lists [][]option) (choice, bool) {
	var counted choice
	copy(counted[:], c[:])
	for n := range lists {
		i := len(lists) - 1 - n
		counted[i]++
		if counted[i] < len(lists[i]) {
			return counted, true
		}
		counted[i] = 0
	}
	return choice{}, false
}

// chosen returns a play with the moves of a choice, which share no memory with other plays.
func chosen(head api.Play, lists [][]option, c choice) api.Play {
	p := head
	for i, list := range lists {
		if o := list[c[i]]; o.moves {
			m := o.move
			m.By = slices.Clone(m.By)
			p.Moves = append(p.Moves, m)
		}
	}
	return p
}

// isCombination reports whether a play that has its form is one of the combinations of a family in a state.
func isCombination(s rule.State, f Family, p api.Play) bool {
	if !slices.Contains(f.Pitches, p.Pitches) || !slices.Contains(f.Events, p.Event) || p.Late && !f.Late {
		return false
	}
	bases := movers(s, p.Event)
	for _, m := range p.Moves {
		if !slices.Contains(bases, m.From) || !isOption(f, m) {
			return false
		}
	}
	return true
}

// isOption reports whether a move that has its form is an option of a family for its runner.
func isOption(f Family, m api.Move) bool {
	if m.Out {
		return strings.Contains(f.Outs, m.How) && slices.Equal(m.By, f.By)
	}
	return strings.Contains(f.Safe, m.How) && len(m.By) == 0
}
