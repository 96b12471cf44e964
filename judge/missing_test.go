package judge_test

import (
	"fmt"
	"testing"

	"dugout/api"
	"dugout/judge"
)

func TestAsks(t *testing.T) {
	g := acts(t,
		"X X 0-1b:6",          // 0: the batter
		"C - 1-2p",            // 1: a pitch that got away
		"X X 2-4b:82 0-2t:82", // 2: a runner on a batted ball does not ask
		"C - 2-3s",            // 3: a stolen base
		"BBBB W 0-1a",         // 4: awarded
		"C - 3-4k 1-2k",       // 5: a balk
		"X X 2-3t 0x1f:63",    // 6: an out
		"CCS K 3-4t 0-1t:2",   // 7: thrown
		"CCC K 1-2p:2 0x1k:2", // 8: a pitch that got away from an out
		"X X 0-1o:3",          // 9: obstruction
	)
	for at, asks := range [][]string{{"0-1b:6"}, {"1-2p"}, {"0-2t:82"}, {"2-3s"}, {}, {}, {}, {}, {"1-2p:2"}, {}} {
		moves, e := judge.Asks(g, at)
		want(t, fmt.Sprintf("Asks of %d", at), []any{fmt.Sprint(printed(t, moves)), e}, []any{fmt.Sprint(asks), api.OK})
	}
	g = acts(t, "X X 0-1b", "X X 1-2b 0-1b", "B - 2-3s 1-2s", "B - 3-4p 2-3p")
	for at, asks := range map[int][]string{2: {"2-3s", "1-2s"}, 3: {"3-4p", "2-3p"}} {
		moves, e := judge.Asks(g, at)
		want(t, fmt.Sprintf("Asks of two runners in %d", at), []any{printed(t, moves), e}, []any{asks, api.OK})
	}
	g = acts(t, "X X 0-3b", "CCS K 3-4p 0-1p")
	moves, e := judge.Asks(g, 1)
	want(t, "Asks of a third strike", []any{printed(t, moves), e}, []any{[]string{"3-4p", "0-1p"}, api.OK})
}

func TestAsksWrong(t *testing.T) {
	for _, at := range []int{-1, 3, 4, 1 << 62} {
		moves, e := judge.Asks(example(t), at)
		want(t, fmt.Sprintf("Asks of %d", at), []any{len(moves), e}, []any{0, api.ErrUnknown})
	}
	for what, row := range wrongGames(t) {
		moves, e := judge.Asks(row.plays, -1)
		want(t, "Asks: "+what, []any{len(moves), e}, []any{0, row.err})
	}
	_, e := judge.Asks(nil, 0)
	want(t, "Asks of no plays", e, api.ErrUnknown)
}

func TestAsksSharesNothing(t *testing.T) {
	g := example(t)
	moves, _ := judge.Asks(g, 2)
	moves[0].By[0] = 9
	want(t, "the plays, when a result was changed", g, example(t))
}

func TestMissingAndComplete(t *testing.T) {
	steals := acts(t, "X X 0-1b", "X X 1-2b 0-1b", "B - 2-3s:25 1-2s")
	pitches := acts(t, "X X 0-1b", "X X 1-2b 0-1b", "B - 2-3p 1-2p", "B - 3-4p 2-3p")
	strike := acts(t, "X X 0-3b:8", "CCS K 3-4p 0-2p:2")
	helped := acts(t, "X X 0-1b", "X X 1-2b 0x1f:13", "X X 2-4t:8 0-3b:82")
	for what, row := range map[string]struct {
		plays          []api.Play
		l              []api.Judgment
		supplied, both []string
	}{
		"no plays":                         {nil, nil, nil, nil},
		"all are there":                    {example(t), rulings("0 0 hit 1 0", "1 1 wild 0 0", "2 0 hit 2 0"), nil, []string{"0 0 hit 1 0", "1 1 wild 0 0", "2 0 hit 2 0"}},
		"other kinds":                      {example(t), rulings("0 0 choice 0 0", "1 1 passed 0 0", "2 0 life 0 8"), nil, []string{"0 0 choice 0 0", "1 1 passed 0 0", "2 0 life 0 8"}},
		"a shorter hit":                    {example(t), rulings("2 0 hit 1 0"), []string{"0 0 hit 1 0", "1 1 wild 0 0"}, []string{"0 0 hit 1 0", "1 1 wild 0 0", "2 0 hit 1 0"}},
		"an error of the batter":           {example(t), rulings("2 0 error 1 8"), []string{"0 0 hit 1 0", "1 1 wild 0 0", "2 0 hit 1 0"}, []string{"0 0 hit 1 0", "1 1 wild 0 0", "2 0 hit 1 0", "2 0 error 1 8"}},
		"errors of both":                   {example(t), rulings("2 2 error 3 8", "2 0 error 1 8"), []string{"0 0 hit 1 0", "1 1 wild 0 0", "2 0 hit 1 0"}, []string{"0 0 hit 1 0", "1 1 wild 0 0", "2 2 error 3 8", "2 0 hit 1 0", "2 0 error 1 8"}},
		"errors of two bases":              {helped, rulings("2 0 error 2 8"), []string{"0 0 hit 1 0", "2 0 hit 2 0"}, []string{"0 0 hit 1 0", "2 0 hit 2 0", "2 0 error 2 8"}},
		"a judgment of another runner":     {example(t), rulings("2 2 error 3 8"), []string{"0 0 hit 1 0", "1 1 wild 0 0", "2 0 hit 2 0"}, []string{"0 0 hit 1 0", "1 1 wild 0 0", "2 2 error 3 8", "2 0 hit 2 0"}},
		"a life of another runner":         {example(t), rulings("2 2 life 0 8"), []string{"0 0 hit 1 0", "1 1 wild 0 0", "2 0 hit 2 0"}, []string{"0 0 hit 1 0", "1 1 wild 0 0", "2 2 life 0 8", "2 0 hit 2 0"}},
		"a sacrifice":                      {example(t), rulings("2 0 sacrifice 0 0"), []string{"0 0 hit 1 0", "1 1 wild 0 0", "2 0 choice 0 0"}, []string{"0 0 hit 1 0", "1 1 wild 0 0", "2 0 choice 0 0", "2 0 sacrifice 0 0"}},
		"a sacrifice and an error":         {example(t), rulings("2 0 error 1 8", "2 0 sacrifice 0 0"), []string{"0 0 hit 1 0", "1 1 wild 0 0", "2 0 choice 0 0"}, []string{"0 0 hit 1 0", "1 1 wild 0 0", "2 0 error 1 8", "2 0 choice 0 0", "2 0 sacrifice 0 0"}},
		"a sacrifice and a life":           {example(t), rulings("2 0 life 0 8", "2 0 sacrifice 0 0"), []string{"0 0 hit 1 0", "1 1 wild 0 0"}, []string{"0 0 hit 1 0", "1 1 wild 0 0", "2 0 life 0 8", "2 0 sacrifice 0 0"}},
		"a sacrifice that is out":          {helped, rulings("1 0 sacrifice 0 0"), []string{"0 0 hit 1 0", "2 0 hit 3 0"}, []string{"0 0 hit 1 0", "1 0 sacrifice 0 0", "2 0 hit 3 0"}},
		"two steals":                       {steals, nil, []string{"0 0 hit 1 0", "1 0 hit 1 0", "2 2 steal 0 0", "2 1 steal 0 0"}, []string{"0 0 hit 1 0", "1 0 hit 1 0", "2 2 steal 0 0", "2 1 steal 0 0"}},
		"an idle one":                      {steals, rulings("2 1 idle 0 0"), []string{"0 0 hit 1 0", "1 0 hit 1 0", "2 2 steal 0 0"}, []string{"0 0 hit 1 0", "1 0 hit 1 0", "2 2 steal 0 0", "2 1 idle 0 0"}},
		"a runner who should be out":       {steals, rulings("2 2 life 0 5"), []string{"0 0 hit 1 0", "1 0 hit 1 0", "2 1 steal 0 0"}, []string{"0 0 hit 1 0", "1 0 hit 1 0", "2 2 life 0 5", "2 1 steal 0 0"}},
		"a steal with an error":            {steals, rulings("2 2 error 2 2"), []string{"0 0 hit 1 0", "1 0 hit 1 0", "2 2 steal 0 0", "2 1 steal 0 0"}, []string{"0 0 hit 1 0", "1 0 hit 1 0", "2 2 error 2 2", "2 2 steal 0 0", "2 1 steal 0 0"}},
		"wild pitches":                     {pitches, nil, []string{"0 0 hit 1 0", "1 0 hit 1 0", "2 2 wild 0 0", "2 1 wild 0 0", "3 3 wild 0 0", "3 2 wild 0 0"}, []string{"0 0 hit 1 0", "1 0 hit 1 0", "2 2 wild 0 0", "2 1 wild 0 0", "3 3 wild 0 0", "3 2 wild 0 0"}},
		"a passed ball of the runner":      {pitches, rulings("2 2 passed 0 0"), []string{"0 0 hit 1 0", "1 0 hit 1 0", "2 1 passed 0 0", "3 3 wild 0 0", "3 2 wild 0 0"}, []string{"0 0 hit 1 0", "1 0 hit 1 0", "2 2 passed 0 0", "2 1 passed 0 0", "3 3 wild 0 0", "3 2 wild 0 0"}},
		"a passed ball of the one behind":  {pitches, rulings("3 2 passed 0 0"), []string{"0 0 hit 1 0", "1 0 hit 1 0", "2 2 wild 0 0", "2 1 wild 0 0", "3 3 passed 0 0"}, []string{"0 0 hit 1 0", "1 0 hit 1 0", "2 2 wild 0 0", "2 1 wild 0 0", "3 3 passed 0 0", "3 2 passed 0 0"}},
		"a wild pitch of one":              {pitches, rulings("2 1 wild 0 0"), []string{"0 0 hit 1 0", "1 0 hit 1 0", "2 2 wild 0 0", "3 3 wild 0 0", "3 2 wild 0 0"}, []string{"0 0 hit 1 0", "1 0 hit 1 0", "2 2 wild 0 0", "2 1 wild 0 0", "3 3 wild 0 0", "3 2 wild 0 0"}},
		"a third strike":                   {strike, nil, []string{"0 0 hit 3 0", "1 3 wild 0 0", "1 0 wild 0 0"}, []string{"0 0 hit 3 0", "1 3 wild 0 0", "1 0 wild 0 0"}},
		"a third strike that was passed":   {strike, rulings("1 0 passed 0 0"), []string{"0 0 hit 3 0", "1 3 passed 0 0"}, []string{"0 0 hit 3 0", "1 3 passed 0 0", "1 0 passed 0 0"}},
		"an error behind a third strike":   {strike, rulings("1 0 error 1 2"), []string{"0 0 hit 3 0", "1 3 wild 0 0", "1 0 wild 0 0"}, []string{"0 0 hit 3 0", "1 3 wild 0 0", "1 0 error 1 2", "1 0 wild 0 0"}},
		"an error of the one before":       {strike, rulings("0 0 error 1 8"), []string{"0 0 hit 1 0", "1 3 wild 0 0", "1 0 wild 0 0"}, []string{"0 0 hit 1 0", "0 0 error 1 8", "1 3 wild 0 0", "1 0 wild 0 0"}},
		"a thrown third strike asks none":  {acts(t, "CCS K 0-1t:2"), nil, nil, nil},
		"a thrown third strike, with life": {acts(t, "CCS K 0-1t:2"), rulings("0 0 life 0 2"), nil, []string{"0 0 life 0 2"}},
	} {
		l, e := judge.Missing(row.plays, row.l)
		want(t, "the error of Missing: "+what, e, api.OK)
		same(t, "Missing: "+what, l, rulings(row.supplied...))
		l, e = judge.Complete(row.plays, row.l)
		want(t, "the error of Complete: "+what, e, api.OK)
		same(t, "Complete: "+what, l, rulings(row.both...))
	}
}

func TestCompleteWrong(t *testing.T) {
	expect := func(what string, plays []api.Play, l []api.Judgment, err api.Errno) {
		t.Helper()
		got, e := judge.Missing(plays, l)
		want(t, "Missing: "+what, []any{len(got), e}, []any{0, err})
		got, e = judge.Complete(plays, l)
		want(t, "Complete: "+what, []any{len(got), e}, []any{0, err})
	}
	for what, row := range wrongGames(t) {
		expect(what, row.plays, make([]api.Judgment, api.MaxJudgments+1), row.err)
	}
	for _, row := range wrongLists() {
		expect("a list that is wrong", example(t), row.l, row.err)
	}
	expect("too many", crowd(t), blamed(t, 762, 7), api.ErrMany)
	expect("far too many", crowd(t), blamed(t, 762, 255), api.ErrMany)
}

// wrongLists returns lists of judgments of the game G that are wrong, with their errors.
func wrongLists() []struct {
	l   []api.Judgment
	err api.Errno
} {
	type row = struct {
		l   []api.Judgment
		err api.Errno
	}
	return []row{
		{make([]api.Judgment, api.MaxJudgments+1), api.ErrMany},
		{rulings("3 0 hit 1 0"), api.ErrUnknown},
		{rulings("0 0 walk 1 0"), api.ErrKind},
		{[]api.Judgment{withRule("0 0 hit 1 0", 2)}, api.ErrRule},
		{rulings("0 3 hit 1 0"), api.ErrNone},
		{rulings("0 0 hit 3 0"), api.ErrJudge},
		{rulings("2 0 hit 2 0", "0 0 hit 1 0"), api.ErrOrder},
		{rulings("0 0 hit 1 0", "0 0 life 0 6"), api.ErrConflict},
	}
}

func TestCompleteAtItsLimit(t *testing.T) {
	g := crowd(t)
	for what, row := range map[string]struct{ errors, sacrifices, all int }{
		"nothing":        {0, 0, 256},
		"errors":         {762, 0, 1018},
		"just enough":    {762, 6, 1024},
		"one error less": {761, 7, 1024},
	} {
		l := blamed(t, row.errors, row.sacrifices)
		complete, e := judge.Complete(g, l)
		want(t, "Complete: "+what, []any{len(complete), e}, []any{row.all, api.OK})
		missing, e := judge.Missing(g, l)
		want(t, "Missing: "+what, []any{len(missing), e}, []any{256, api.OK})
	}
}

func TestOf(t *testing.T) {
	l := rulings("0 0 hit 1 0", "1 1 wild 0 0", "2 2 error 3 8", "2 0 hit 2 0")
	for at, wanted := range map[int][]api.Judgment{0: l[:1], 1: l[1:2], 2: l[2:], 3: nil, -1: nil} {
		same(t, fmt.Sprintf("Of %d", at), judge.Of(l, at), wanted)
	}
	odd := rulings("5 7 walk 9 9", "-1 0 hit 1 0", "2 0 hit 1 0", "5 7 walk 9 9", "5 0 hit -1 0")
	same(t, "Of, in the order of the list", judge.Of(odd, 5), rulings("5 7 walk 9 9", "5 7 walk 9 9", "5 0 hit -1 0"))
	same(t, "Of a negative play", judge.Of(odd, -1), rulings("-1 0 hit 1 0"))
	same(t, "Of a long list", judge.Of(make([]api.Judgment, 3000), 0), make([]api.Judgment, 3000))
	judge.Of(l, 2)[0].Base = 9
	same(t, "the list, when a result was changed", l, rulings("0 0 hit 1 0", "1 1 wild 0 0", "2 2 error 3 8", "2 0 hit 2 0"))
}
