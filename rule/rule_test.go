package rule_test

import (
	"math"
	"reflect"
	"strings"
	"testing"

	"dugout/api"
	"dugout/play"
	"dugout/rule"
)

// want reports a result that is not the expected one; nil and empty lists are equal.
func want(t *testing.T, what string, got, wanted any) {
	t.Helper()
	a, b := reflect.ValueOf(got), reflect.ValueOf(wanted)
	if a.Kind() == reflect.Slice && b.Kind() == reflect.Slice && a.Len() == 0 && b.Len() == 0 {
		return
	}
	if !reflect.DeepEqual(got, wanted) {
		t.Errorf("%s: got %v, want %v", what, got, wanted)
	}
}

// state returns the state with a string that is known to be right.
func state(t *testing.T, s string) rule.State {
	t.Helper()
	x, e := rule.Parse(s)
	if e != api.OK {
		t.Fatalf("Parse(%q): error %d", s, e)
	}
	return x
}

// act returns the play with a string that is known to have its form.
func act(t *testing.T, s string) api.Play {
	t.Helper()
	p, _, e := play.Parse(s)
	if e != api.OK {
		t.Fatalf("play.Parse(%q): error %d", s, e)
	}
	return p
}

// plays returns the plays of strings, each of them as often as the number before it says.
func plays(t *testing.T, list ...any) []api.Play {
	t.Helper()
	var l []api.Play
	times := 1
	for _, x := range list {
		switch x := x.(type) {
		case int:
			times = x
		case string:
			for range times {
				l = append(l, act(t, x))
			}
			times = 1
		}
	}
	return l
}

// shown returns the string of a state.
func shown(t *testing.T, s rule.State) string {
	t.Helper()
	text, e := rule.Print(s)
	want(t, "the error of Print", e, api.OK)
	return text
}

// wrongStates returns states that are none, with their errors.
func wrongStates() map[string]struct {
	state rule.State
	err   api.Errno
} {
	type row = struct {
		state rule.State
		err   api.Errno
	}
	with := func(change func(*rule.State)) rule.State {
		s := rule.State{Inning: 9, Half: 0, Outs: 2, Next: [2]int{3, 1}}
		change(&s)
		return s
	}
	return map[string]row{
		"nothing":                    {rule.State{}, api.ErrRange},
		"inning 0":                   {with(func(s *rule.State) { s.Inning = 0 }), api.ErrRange},
		"inning 31":                  {with(func(s *rule.State) { s.Inning = 31 }), api.ErrRange},
		"the least inning":           {with(func(s *rule.State) { s.Inning = math.MinInt }), api.ErrRange},
		"half -1":                    {with(func(s *rule.State) { s.Half = -1 }), api.ErrSide},
		"half 2":                     {with(func(s *rule.State) { s.Half = 2 }), api.ErrSide},
		"the greatest half":          {with(func(s *rule.State) { s.Half = math.MaxInt }), api.ErrSide},
		"inning before half":         {with(func(s *rule.State) { s.Inning, s.Half = 0, 2 }), api.ErrRange},
		"half before outs":           {with(func(s *rule.State) { s.Half, s.Outs = 2, 3 }), api.ErrSide},
		"3 outs":                     {with(func(s *rule.State) { s.Outs = 3 }), api.ErrRange},
		"-1 outs":                    {with(func(s *rule.State) { s.Outs = -1 }), api.ErrRange},
		"4 balls":                    {with(func(s *rule.State) { s.Balls = 4 }), api.ErrRange},
		"-1 balls":                   {with(func(s *rule.State) { s.Balls = -1 }), api.ErrRange},
		"3 strikes":                  {with(func(s *rule.State) { s.Strikes = 3 }), api.ErrRange},
		"-1 strikes":                 {with(func(s *rule.State) { s.Strikes = -1 }), api.ErrRange},
		"a slot 10 on third base":    {with(func(s *rule.State) { s.Bases[2] = 10 }), api.ErrRange},
		"a slot -1 on first base":    {with(func(s *rule.State) { s.Bases[0] = -1 }), api.ErrRange},
		"no slot that is next":       {with(func(s *rule.State) { s.Next[0] = 0 }), api.ErrRange},
		"a next slot 10":             {with(func(s *rule.State) { s.Next[1] = 10 }), api.ErrRange},
		"a score of -1":              {with(func(s *rule.State) { s.Score[0] = -1 }), api.ErrRange},
		"a score of 10000":           {with(func(s *rule.State) { s.Score[1] = 10000 }), api.ErrRange},
		"a range before being over":  {with(func(s *rule.State) { s.Score[1], s.Over = 10000, true }), api.ErrRange},
		"over with equal scores":     {with(func(s *rule.State) { s.Outs, s.Over = 0, true }), api.ErrState},
		"over with outs":             {with(func(s *rule.State) { s.Score[1], s.Over = 1, true }), api.ErrState},
		"decided and on":             {with(func(s *rule.State) { s.Half, s.Score[1] = 1, 1 }), api.ErrState},
		"decided before runners":     {with(func(s *rule.State) { s.Half, s.Score[1], s.Bases = 1, 1, [3]int{1} }), api.ErrState},
		"the batter as a runner":     {with(func(s *rule.State) { s.Bases[0] = 3 }), api.ErrOrder},
		"runners in the wrong order": {with(func(s *rule.State) { s.Bases = [3]int{1, 2} }), api.ErrOrder},
	}
}

// Every function that takes a state tells its error before all else.
func TestWrongStates(t *testing.T) {
	for what, x := range wrongStates() {
		want(t, what+", CheckState", rule.CheckState(x.state), x.err)
		slot, e := rule.Batter(x.state)
		want(t, what+", Batter", slot, 0)
		want(t, what+", Batter", e, x.err)
		list, e := rule.Runners(x.state)
		want(t, what+", Runners", list, []int{})
		want(t, what+", Runners", e, x.err)
		counted, asked, e := rule.Count(x.state, "no pitches")
		want(t, what+", Count", counted, [2]int{})
		want(t, what+", Count", asked, "")
		want(t, what+", Count", e, x.err)
		who, e := rule.Forced(x.state)
		want(t, what+", Forced", who, [4]bool{})
		want(t, what+", Forced", e, x.err)
		text, e := rule.Print(x.state)
		want(t, what+", Print", text, "")
		want(t, what+", Print", e, x.err)
		refused(t, what, x.state, api.Play{Event: "Q"}, 0, x.err)
	}
}

// refused expects all functions of a state and a play to return an error, and Apply the number of a rule.
func refused(t *testing.T, what string, s rule.State, p api.Play, broken int, err api.Errno) {
	t.Helper()
	next, n, e := rule.Apply(s, p)
	want(t, what+", Apply", next, rule.State{})
	want(t, what+", the rule of Apply", n, broken)
	want(t, what+", Apply", e, err)
	list, e := rule.Scored(s, p)
	want(t, what+", Scored", list, []int{})
	want(t, what+", Scored", e, err)
	list, e = rule.Left(s, p)
	want(t, what+", Left", list, []int{})
	want(t, what+", Left", e, err)
	ends, e := rule.Ends(s, p)
	want(t, what+", Ends", ends, 0)
	want(t, what+", Ends", e, err)
}

func TestNothingPanics(t *testing.T) {
	numbers := []int{math.MinInt, math.MinInt + 1, -1, 0, 1, 3, 9, 10, 30, 9999, math.MaxInt}
	texts := []string{"", "-", "X", "\x00\xff", "1t", strings.Repeat("B", 5000), strings.Repeat("9", 4000) + "t"}
	for _, n := range numbers {
		for _, m := range numbers {
			for _, s := range texts {
				moves := []api.Move{{From: n, To: m, How: s, By: []int{m, n}}, {From: m, To: n, Out: true, How: "g", By: numbers}}
				p := api.Play{Pitches: s, Event: s, Late: true, Moves: moves}
				for _, x := range []rule.State{
					rule.Start(),
					{Inning: 1, Half: n, Next: [2]int{m, n}},
					{Inning: n, Half: 1, Outs: m, Balls: n, Strikes: m, Bases: [3]int{n, m, n}, Next: [2]int{1, 1}},
					{Inning: m, Score: [2]int{n, m}, Next: [2]int{n, m}, Over: true},
				} {
					rule.CheckState(x)
					rule.Batter(x)
					rule.Runners(x)
					rule.Count(x, s)
					rule.Forced(x)
					rule.Apply(x, p)
					rule.Scored(x, p)
					rule.Left(x, p)
					rule.Ends(x, p)
					rule.Print(x)
				}
				rule.Replay([]api.Play{p, p})
				rule.Final([]api.Play{p})
				rule.Halves([]api.Play{{}, p})
				rule.Line([]api.Play{p})
				rule.Parse(s)
			}
		}
	}
}
