package judge_test

import (
	"fmt"
	"testing"

	"dugout/api"
	"dugout/judge"
)

func TestCleans(t *testing.T) {
	pitches := acts(t, "X X 0-1b", "X X 1-2b 0-1b", "B - 2-4p:28 1-3p", "X X 3-4b:8 0x1f:63")
	strike := acts(t, "X X 0-3b:8", "CCS K 3-4p:2 0-2p:2")
	for what, row := range map[string]struct {
		plays  []api.Play
		l      []api.Judgment
		at     int
		cleans []judge.Clean
	}{
		"a hit":                                 {example(t), nil, 0, []judge.Clean{{0, 1, false}}},
		"a wild pitch":                          {example(t), nil, 1, []judge.Clean{{1, 2, false}}},
		"two moves":                             {example(t), nil, 2, []judge.Clean{{2, 4, false}, {0, 2, false}}},
		"a life":                                {example(t), rulings("0 0 life 0 6"), 0, []judge.Clean{{0, 0, true}}},
		"a life of a runner":                    {example(t), rulings("2 2 life 0 8"), 2, []judge.Clean{{2, 0, true}, {0, 2, false}}},
		"a life of the batter":                  {example(t), rulings("2 0 life 0 8", "2 0 sacrifice 0 0"), 2, []judge.Clean{{2, 4, false}, {0, 0, true}}},
		"an error":                              {example(t), rulings("2 2 error 3 8"), 2, []judge.Clean{{2, 3, false}, {0, 2, false}}},
		"an error, he would have stayed":        {example(t), rulings("2 2 error 2 8"), 2, []judge.Clean{{2, 2, false}, {0, 2, false}}},
		"errors of both":                        {example(t), rulings("2 2 error 3 8", "2 0 error 1 2"), 2, []judge.Clean{{2, 3, false}, {0, 1, false}}},
		"a shorter hit":                         {example(t), rulings("2 0 hit 1 0"), 2, []judge.Clean{{2, 4, false}, {0, 2, false}}},
		"a hit and an error":                    {acts(t, "X X 0-4b:8"), rulings("0 0 hit 1 0", "0 0 error 2 8"), 0, []judge.Clean{{0, 2, false}}},
		"a choice":                              {example(t), rulings("0 0 choice 0 0"), 0, []judge.Clean{{0, 1, false}}},
		"a passed ball":                         {example(t), rulings("1 1 passed 0 0"), 1, []judge.Clean{{1, 1, false}}},
		"judgments of another play":             {example(t), rulings("0 0 life 0 6", "1 1 passed 0 0"), 2, []judge.Clean{{2, 4, false}, {0, 2, false}}},
		"a passed ball of one runner":           {pitches, rulings("2 1 passed 0 0"), 2, []judge.Clean{{2, 2, false}, {1, 1, false}}},
		"a passed ball with an error":           {pitches, rulings("2 2 error 3 8", "2 2 passed 0 0"), 2, []judge.Clean{{2, 3, false}, {1, 1, false}}},
		"an error with a passed ball, supplied": {pitches, rulings("2 2 error 3 8", "2 1 passed 0 0"), 2, []judge.Clean{{2, 3, false}, {1, 1, false}}},
		"a wild pitch with an error":            {pitches, rulings("2 2 error 2 2"), 2, []judge.Clean{{2, 2, false}, {1, 3, false}}},
		"an out":                                {pitches, nil, 3, []judge.Clean{{3, 4, false}, {0, 0, true}}},
		"an out with a sacrifice":               {pitches, rulings("3 0 sacrifice 0 0"), 3, []judge.Clean{{3, 4, false}, {0, 0, true}}},
		"a third strike that got away":          {strike, nil, 1, []judge.Clean{{3, 4, false}, {0, 2, false}}},
		"a third strike that was passed":        {strike, rulings("1 0 passed 0 0"), 1, []judge.Clean{{3, 3, false}, {0, 0, true}}},
		"the third strike supplied as passed":   {strike, rulings("1 3 passed 0 0"), 1, []judge.Clean{{3, 3, false}, {0, 0, true}}},
		"the batter's error and a passed ball":  {strike, rulings("1 0 error 1 2", "1 0 passed 0 0"), 1, []judge.Clean{{3, 3, false}, {0, 0, true}}},
		"the batter's error and a wild pitch":   {strike, rulings("1 0 error 1 2"), 1, []judge.Clean{{3, 4, false}, {0, 1, false}}},
		"a steal":                               {acts(t, "X X 0-1b", "C - 1-3s:26"), nil, 1, []judge.Clean{{1, 3, false}}},
		"an idle one":                           {acts(t, "X X 0-1b", "C - 1-3s:26"), rulings("1 1 idle 0 0"), 1, []judge.Clean{{1, 3, false}}},
		"a steal with an error":                 {acts(t, "X X 0-1b", "C - 1-3s:26"), rulings("1 1 error 2 2"), 1, []judge.Clean{{1, 2, false}}},
		"a steal with a life":                   {acts(t, "X X 0-1b", "C - 1-3s:26"), rulings("1 1 life 0 2"), 1, []judge.Clean{{1, 0, true}}},
		"an out of a runner":                    {acts(t, "X X 0-1b", "C - 1x2g:26"), nil, 1, []judge.Clean{{1, 0, true}}},
		"no moves":                              {acts(t, "F -"), nil, 0, nil},
		"awards":                                {acts(t, "BBBB W 0-1a"), nil, 0, []judge.Clean{{0, 1, false}}},
	} {
		cleans, e := judge.Cleans(row.plays, row.l, row.at)
		want(t, "the error of Cleans: "+what, e, api.OK)
		want(t, "Cleans: "+what, cleans, row.cleans)
	}
}

func TestCleansWrong(t *testing.T) {
	expect := func(what string, plays []api.Play, l []api.Judgment, at int, err api.Errno) {
		t.Helper()
		cleans, e := judge.Cleans(plays, l, at)
		want(t, "Cleans: "+what, []any{len(cleans), e}, []any{0, err})
	}
	for what, row := range wrongGames(t) {
		expect(what, row.plays, rulings("9 9 walk 0 0"), -1, row.err)
	}
	for _, row := range wrongLists() {
		expect("a wrong list", example(t), row.l, -1, row.err)
	}
	for _, at := range []int{-1, 3, 1 << 62} {
		expect(fmt.Sprintf("the play %d", at), example(t), nil, at, api.ErrUnknown)
	}
	expect("no plays", nil, nil, 0, api.ErrUnknown)
	expect("too many, and no play", crowd(t), blamed(t, 762, 7), 256, api.ErrUnknown)
	expect("too many", crowd(t), blamed(t, 762, 7), 0, api.ErrMany)
	expect("just enough", crowd(t), blamed(t, 762, 6), 256, api.ErrUnknown)
	cleans, e := judge.Cleans(crowd(t), blamed(t, 762, 6), 255)
	want(t, "Cleans of the greatest list", []any{cleans, e}, []any{[]judge.Clean{{3, 3, false}, {2, 2, false}, {1, 1, false}, {0, 1, false}}, api.OK})
}

func TestMisplays(t *testing.T) {
	pitches := acts(t, "X X 0-1b", "X X 1-2b 0-1b:6", "B - 2-3p:2 1-2p", "B - 3-4s:2 2-3s:2")
	for what, row := range map[string]struct {
		plays    []api.Play
		l        []api.Judgment
		misplays []string
	}{
		"none":                       {example(t), nil, nil},
		"three kinds":                {example(t), rulings("0 0 life 0 6", "1 1 passed 0 0", "2 0 error 1 2"), []string{"0 0 life 0 6", "1 1 passed 0 0", "2 0 error 1 2"}},
		"among others":               {example(t), rulings("0 0 hit 1 0", "1 1 wild 0 0", "2 2 life 0 8", "2 0 hit 1 0", "2 0 error 1 2", "2 0 choice 0 0")[:5], []string{"2 2 life 0 8", "2 0 error 1 2"}},
		"a passed ball is supplied":  {pitches, rulings("2 1 passed 0 0"), []string{"2 2 passed 0 0", "2 1 passed 0 0"}},
		"an error of a steal":        {pitches, rulings("3 3 error 3 2", "3 2 idle 0 0"), []string{"3 3 error 3 2"}},
		"a passed ball and an error": {pitches, rulings("2 2 error 2 2", "2 2 passed 0 0"), []string{"2 2 error 2 2", "2 2 passed 0 0", "2 1 passed 0 0"}},
	} {
		l, e := judge.Misplays(row.plays, row.l)
		want(t, "the error of Misplays: "+what, e, api.OK)
		want(t, "Misplays: "+what, shown(l), row.misplays)
	}
	for what, row := range wrongGames(t) {
		l, e := judge.Misplays(row.plays, rulings("9 9 walk 0 0"))
		want(t, "Misplays: "+what, []any{len(l), e}, []any{0, row.err})
	}
	for _, row := range wrongLists() {
		l, e := judge.Misplays(example(t), row.l)
		want(t, "Misplays of a wrong list", []any{len(l), e}, []any{0, row.err})
	}
	l, e := judge.Misplays(crowd(t), blamed(t, 762, 7))
	want(t, "Misplays of too many", []any{len(l), e}, []any{0, api.ErrMany})
	l, e = judge.Misplays(crowd(t), blamed(t, 762, 6))
	want(t, "Misplays of just enough", []any{len(l), e}, []any{762, api.OK})
}

// twoHalves returns a game in which both sides bat: plays 0 to 4, and from play 5 on.
func twoHalves(t *testing.T) []api.Play {
	t.Helper()
	return acts(t, "X X 0-1b:6", "B - 1-2p:2", "X X 0x1f:63", "X X 0x1f:63", "X X late 2-4b:9 0x2g:94",
		"X X 0-2b:97", "C - 2-3s:25", "X X 3-4b:4 0-1b:4", "C - 1-2p", "X X 0x1c:8")
}

func TestErrors(t *testing.T) {
	g := twoHalves(t)
	all := rulings("0 0 life 0 6", "1 1 error 1 2", "1 1 passed 0 0", "4 2 error 3 9", "5 0 error 1 9", "6 2 life 0 5", "7 3 life 0 4", "7 0 life 0 4", "8 1 passed 0 0")
	at, e := judge.CheckJudgments(g, all)
	want(t, "the judgments", []any{at, e}, []any{-1, api.OK})
	for what, row := range map[string]struct {
		l      []api.Judgment
		side   int
		errors [10]int
	}{
		"none":                  {nil, 1, [10]int{}},
		"none of side 0":        {nil, 0, [10]int{}},
		"all of side 1":         {all, 1, [10]int{0: 3, 2: 1, 6: 1, 9: 1}},
		"all of side 0":         {all, 0, [10]int{0: 4, 4: 2, 5: 1, 9: 1}},
		"the play at the end":   {all[3:4], 1, [10]int{0: 1, 9: 1}},
		"not the other side":    {all[3:4], 0, [10]int{}},
		"the first play":        {all[4:5], 0, [10]int{0: 1, 9: 1}},
		"passed balls are none": {rulings("1 1 passed 0 0"), 1, [10]int{}},
		"the last fielder":      {rulings("0 0 life 0 6", "4 2 life 0 9"), 1, [10]int{0: 2, 6: 1, 9: 1}},
	} {
		errors, e := judge.Errors(g, row.l, row.side)
		want(t, "Errors: "+what, []any{errors, e}, []any{row.errors, api.OK})
	}
	errors, e := judge.Errors(acts(t, "X X 0-2b:1"), rulings("0 0 error 1 1"), 1)
	want(t, "the pitcher", []any{errors, e}, []any{[10]int{0: 1, 1: 1}, api.OK})
	errors, e = judge.Errors(nil, nil, 0)
	want(t, "no plays", []any{errors, e}, []any{[10]int{}, api.OK})
}

func TestErrorsWrong(t *testing.T) {
	expect := func(what string, plays []api.Play, l []api.Judgment, side int, err api.Errno) {
		t.Helper()
		errors, e := judge.Errors(plays, l, side)
		want(t, "Errors: "+what, []any{errors, e}, []any{[10]int{}, err})
	}
	for what, row := range wrongGames(t) {
		expect(what, row.plays, rulings("9 9 walk 0 0"), 2, row.err)
	}
	for _, row := range wrongLists() {
		expect("a wrong list", example(t), row.l, 2, row.err)
	}
	for _, side := range []int{-1, 2, 1 << 62} {
		expect(fmt.Sprintf("the side %d", side), example(t), rulings("0 0 life 0 6"), side, api.ErrSide)
	}
	expect("too many, and no side", crowd(t), blamed(t, 762, 7), 2, api.ErrSide)
	expect("too many", crowd(t), blamed(t, 762, 7), 0, api.ErrMany)
	errors, e := judge.Errors(crowd(t), blamed(t, 762, 6), 1)
	want(t, "Errors of the greatest list", []any{errors, e}, []any{[10]int{0: 762, 1: 762}, api.OK})
}
