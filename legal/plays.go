package legal

import (
	"iter"
	"slices"

	"dugout/api"
	"dugout/play"
	"dugout/rule"
)

// machine is the machine of the rules in one state.
type machine struct {
	state rule.State
}

// next returns the state after a play, or the number of the first rule that it breaks.
func (m machine) next(p api.Play) (rule.State, int, api.Errno) {
	return rule.Apply(m.state, p)
}

// Candidates returns the combinations that have the form of plays.
func Candidates(s rule.State, f Family) ([]api.Play, api.Errno) {
	if e := checkListed(s, f); e != api.OK {
		return nil, e
	}
	return slices.Collect(candidates(s, f)), api.OK
}

// Plays returns the plays of a family that the machine accepts in a state.
func Plays(s rule.State, f Family) ([]api.Play, api.Errno) {
	if e := checkListed(s, f); e != api.OK {
		return nil, e
	}
	var plays []api.Play
	for p := range follow(s, f) {
		plays = append(plays, p)
	}
	return plays, api.OK
}

// Refusals returns the rules that refuse candidates.
func Refusals(s rule.State, f Family) ([]Refusal, api.Errno) {
	if e := checkListed(s, f); e != api.OK {
		return nil, e
	}
	all := make([]Refusal, rule.MaxRules)
	for i := range all {
		all[i].Rule = i + 1
	}
	for p := range candidates(s, f) {
		if _, broken, e := rule.Apply(s, p); e == api.ErrRule {
			all[broken-1].Plays++
		}
	}
	return filter(all, func(r Refusal) bool { return r.Plays > 0 }), api.OK
}

// Explain returns the name of the first rule that a play breaks, or the empty string.
func Explain(s rule.State, p api.Play) (string, api.Errno) {
	if e := first(checkOn(s), play.CheckPlay(p)); e != api.OK {
		return "", e
	}
	_, broken, e := rule.Apply(s, p)
	if e == api.ErrRule {
		return rule.Rules()[broken-1], api.OK
	}
	return "", e
}

// follow visits the plays of a family in a state, each with the state after it.
func follow(s rule.State, f Family) iter.Seq2[api.Play, rule.State] {
	return accepted(candidates(s, f), machine{s}.next)
}

// accepted visits the candidates that have a next state, each with this state.
func accepted(candidates iter.Seq[api.Play], next func(api.Play) (rule.State, int, api.Errno)) iter.Seq2[api.Play, rule.State] {
	return func(yield func(api.Play, rule.State) bool) {
		for p := range candidates {
			after, _, e := next(p)
			if e == api.OK && !yield(p, after) {
				return
			}
		}
	}
}

// checkOn returns the error of a state that must not be over.
func checkOn(s rule.State) api.Errno {
	return first(rule.CheckState(s), checkNotOver(s))
}

func checkNotOver(s rule.State) api.Errno {
	if s.Over {
		return api.ErrOver
	}
	return api.OK
}

// checkListed returns the error of a state and a family whose combinations are listed.
func checkListed(s rule.State, f Family) api.Errno {
	if e := first(checkOn(s), CheckFamily(f)); e != api.OK {
		return e
	}
	return checkSize(s, f)
}

// checkSize returns the error of a family that is too large in a state; both are valid.
func checkSize(s rule.State, f Family) api.Errno {
	if size(s, f) > MaxSize {
		return api.ErrLimit
	}
	return api.OK
}
