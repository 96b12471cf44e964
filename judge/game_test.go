package judge_test

import (
	"slices"
	"testing"

	"dugout/api"
	"dugout/judge"
)

func TestCheckJudgments(t *testing.T) {
	g := example(t)
	for what, row := range map[string]struct {
		l   []api.Judgment
		at  int
		err api.Errno
	}{
		"nothing":                         {nil, -1, api.OK},
		"a judgment":                      {rulings("0 0 hit 1 0"), -1, api.OK},
		"all":                             {rulings("0 0 hit 1 0", "1 1 wild 0 0", "2 2 error 3 8", "2 0 hit 1 0", "2 0 error 1 2"), -1, api.OK},
		"a hit as far as an error":        {rulings("2 0 hit 1 0", "2 0 error 1 8"), -1, api.OK},
		"an error, a choice, a sacrifice": {rulings("2 0 error 1 8", "2 0 choice 0 0", "2 0 sacrifice 0 0"), -1, api.OK},
		"a life and a sacrifice":          {rulings("2 0 life 0 8", "2 0 sacrifice 0 0"), -1, api.OK},
		"a judgment twice":                {rulings("0 0 hit 1 0", "0 0 hit 1 0"), 1, api.ErrOrder},
		"a kind twice":                    {rulings("2 2 error 2 8", "2 2 error 3 8"), 1, api.ErrOrder},
		"plays in a wrong order":          {rulings("1 1 wild 0 0", "0 0 hit 1 0"), 1, api.ErrOrder},
		"runners in a wrong order":        {rulings("2 0 hit 2 0", "2 2 life 0 8"), 1, api.ErrOrder},
		"kinds in a wrong order":          {rulings("0 0 life 0 6", "0 0 hit 1 0"), 1, api.ErrOrder},
		"a later one in a wrong order":    {rulings("0 0 hit 1 0", "2 0 hit 2 0", "1 1 wild 0 0"), 2, api.ErrOrder},
		"a hit and a life":                {rulings("0 0 hit 1 0", "0 0 life 0 6"), 1, api.ErrConflict},
		"a hit beyond an error":           {rulings("2 0 hit 2 0", "2 0 error 1 8"), 1, api.ErrConflict},
		"not the one right before":        {rulings("2 0 life 0 8", "2 0 choice 0 0"), 1, api.ErrConflict},
		"one before another one":          {rulings("0 0 hit 1 0", "2 0 hit 1 0", "2 0 error 1 8", "2 0 choice 0 0"), 3, api.ErrConflict},
		"the first one excludes":          {rulings("2 0 hit 1 0", "2 0 error 1 8", "2 0 sacrifice 0 0"), 2, api.ErrConflict},
		"no play":                         {rulings("0 0 hit 1 0", "3 0 hit 1 0"), 1, api.ErrUnknown},
		"no kind":                         {rulings("0 0 hit 1 0", "0 0 walk 1 0"), 1, api.ErrKind},
		"a wrong rule":                    {[]api.Judgment{withRule("0 0 hit 1 0", 3)}, 0, api.ErrRule},
		"no move":                         {rulings("0 2 hit 1 0"), 0, api.ErrNone},
		"it does not fit, nor is ordered": {rulings("1 1 wild 0 0", "0 0 hit 2 0"), 1, api.ErrJudge},
		"the first error":                 {rulings("1 1 wild 0 0", "0 0 hit 1 0", "0 0 hit 2 0"), 1, api.ErrOrder},
		"many wrong ones":                 {make([]api.Judgment, api.MaxJudgments), 0, api.ErrKind},
		"too many":                        {make([]api.Judgment, api.MaxJudgments+1), -1, api.ErrMany},
	} {
		at, e := judge.CheckJudgments(g, row.l)
		want(t, "CheckJudgments: "+what, []any{at, e}, []any{row.at, row.err})
	}
}

func TestCheckJudgmentsOfTwoMoves(t *testing.T) {
	g := acts(t, "X X 0-1b", "X X 1-2b 0-1b", "B - 2-3p 1-2p", "B - 3-4p 2-3p")
	for what, row := range map[string]struct {
		l   []api.Judgment
		at  int
		err api.Errno
	}{
		"two wild pitches":        {rulings("2 2 wild 0 0", "2 1 wild 0 0"), -1, api.OK},
		"two passed balls":        {rulings("2 2 passed 0 0", "2 1 passed 0 0"), -1, api.OK},
		"of two plays":            {rulings("2 2 wild 0 0", "3 2 passed 0 0"), -1, api.OK},
		"a wild pitch, a passed":  {rulings("2 2 wild 0 0", "2 1 passed 0 0"), 1, api.ErrConflict},
		"a passed ball, and wild": {rulings("2 2 passed 0 0", "2 1 wild 0 0"), 1, api.ErrConflict},
	} {
		at, e := judge.CheckJudgments(g, row.l)
		want(t, "CheckJudgments: "+what, []any{at, e}, []any{row.at, row.err})
	}
}

func TestCheckJudgmentsOfNoGame(t *testing.T) {
	for what, row := range wrongGames(t) {
		at, e := judge.CheckJudgments(row.plays, make([]api.Judgment, api.MaxJudgments+1))
		want(t, "CheckJudgments: "+what, []any{at, e}, []any{-1, row.err})
	}
	at, e := judge.CheckJudgments(nil, rulings("0 0 hit 1 0"))
	want(t, "CheckJudgments of no plays", []any{at, e}, []any{0, api.ErrUnknown})
	at, e = judge.CheckJudgments(nil, nil)
	want(t, "CheckJudgments of nothing", []any{at, e}, []any{-1, api.OK})
}

// The greatest game, all the judgments that a list may have, and one more.
func TestCheckManyJudgments(t *testing.T) {
	g := crowd(t)
	l, e := judge.Complete(g, blamed(t, 762, 6))
	want(t, "the greatest complete list", []any{len(l), e}, []any{api.MaxJudgments, api.OK})
	at, e := judge.CheckJudgments(g, l)
	want(t, "CheckJudgments of the greatest list", []any{at, e}, []any{-1, api.OK})
	wrong := slices.Clone(l)
	wrong[api.MaxJudgments-1].Base = 2
	at, e = judge.CheckJudgments(g, wrong)
	want(t, "the last one is wrong", []any{at, e}, []any{api.MaxJudgments - 1, api.ErrJudge})
	at, e = judge.CheckJudgments(g, append(wrong, ruling("255 0 sacrifice 0 0")))
	want(t, "one more", []any{at, e}, []any{-1, api.ErrMany})
}
