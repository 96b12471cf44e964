package earned_test

import (
	"testing"

	"dugout/api"
	"dugout/earned"
)

func TestPitcher(t *testing.T) {
	h := inning(t, one+"B -;B -;"+gone+gone, "", 1, 2, 4)
	for at, wanted := range []int{0, 1, 2, 2, 3} {
		k, e := earned.Pitcher(h, at)
		want(t, "Pitcher", []any{k, e}, []any{wanted, api.OK})
	}
	for _, at := range []int{-1, 5, 1 << 62, -1 << 62} {
		k, e := earned.Pitcher(h, at)
		want(t, "Pitcher of no play", []any{k, e}, []any{0, api.ErrRange})
	}
	k, e := earned.Pitcher(inning(t, one, ""), 0)
	want(t, "Pitcher without relief", []any{k, e}, []any{0, api.OK})
	_, e = earned.Pitcher(earned.Half{}, 0)
	want(t, "Pitcher of no plays", e, api.ErrRange)
}

// force returns a play in which the batter comes to first base, and the runner there is out.
const force = "X X 1x2f:64 0-1b;"

func TestCharges(t *testing.T) {
	for what, row := range map[string]struct {
		plays     string
		judgments string
		relief    []int
		charges   []int
	}{
		"no plays":                        {"", "", nil, nil},
		"one pitcher":                     {one + gone + pair, "", nil, []int{0, 0, 0}},
		"the pitcher of the turn":         {one + gone + pair, "", []int{1, 2}, []int{0, 1, 2}},
		"the end of a turn":               {"B -;B -;BB W 0-1a;B -", "", []int{1, 2, 3}, []int{2}},
		"a choice":                        {one + force, "1 0 choice 0 0", []int{1}, []int{0, 0}},
		"a hit":                           {one + force, "1 0 hit 1 0", []int{1}, []int{0, 1}},
		"a choice of the same pitcher":    {one + force, "1 0 choice 0 0", nil, []int{0, 0}},
		"a choice without an out":         {one + "X X 1-2b 0-1b", "1 0 choice 0 0", []int{1}, []int{0, 1}},
		"a choice and the batter's life":  {one + "X X 1x2f:64 0-1b:4", "1 0 life 0 4", []int{1}, []int{0, 1}},
		"an error beside a choice":        {one + "X X 1x2f:64 0-2b:4", "1 0 error 1 4;1 0 choice 0 0", []int{1}, []int{0, 0}},
		"one choice behind another":       {one + force + force, "1 0 choice 0 0;2 0 choice 0 0", []int{1, 2}, []int{0, 0, 0}},
		"a choice of one who took over":   {one + force + "C -;" + force, "1 0 choice 0 0;3 0 choice 0 0", []int{1}, []int{0, 0, 0}},
		"the first one of two":            {one + "X X 1-2b 0-1b;X X 2x3f:5 1x2f:54 0-1b", "2 0 choice 0 0", []int{1, 2}, []int{0, 1, 0}},
		"the other one of two":            {one + "X X 1-2b 0-1b;X X 2-3b 1x2f:64 0-1b", "2 0 choice 0 0", []int{1, 2}, []int{0, 1, 1}},
		"his own runner is the first":     {one + "X X 1-2b 0-1b;X X 2x3f:5 1-2b 0-1b;X X 2x3f:5 1x2f:54 0-1b", "2 0 choice 0 0;3 0 choice 0 0", []int{1}, []int{0, 1, 0, 0}},
		"a runner of one who took over":   {one + "X X 1-2b 0-1b;X X 2x3f:5 1-2b 0-1b;X X 2-3b 1x2f:54 0-1b", "2 0 choice 0 0;3 0 choice 0 0", []int{1}, []int{0, 1, 0, 0}},
		"another runner of his own":       {one + "X X 1-2b 0-1b;X X 2x3f:5 1-2b 0-1b;X X 2x3f:5 1-2b 0-1b", "2 0 choice 0 0;3 0 choice 0 0", []int{1}, []int{0, 1, 0, 1}},
		"his own runner is out alone":     {one + "X X 1-2b 0-1b;X X 2-3b 1x2f:54 0-1b", "2 0 choice 0 0", []int{1}, []int{0, 1, 1}},
		"out at home":                     {three + "X X 3x4g:42 0-1b;B -", "1 0 choice 0 0", []int{1}, []int{0, 0}},
		"a sacrifice with a choice":       {three + "B -;X X 3-4b 0-1b", "2 0 choice 0 0;2 0 sacrifice 0 0", []int{1}, []int{0, 1}},
		"a choice that a sacrifice makes": {one + "X X 1-2b 0-1b;X X 2-3b 1x2f:64 0-1b", "2 0 sacrifice 0 0", []int{1, 2}, []int{0, 1, 1}},
		"an out in an earlier play":       {one + "C - 1x2g:26;" + one, "2 0 choice 0 0", []int{2}, []int{0, 1}},
		"out by no force":                 {two + "X X 2x3g:65 0-1b", "1 0 choice 0 0", []int{1}, []int{0, 0}},
	} {
		charges, e := earned.Charges(inning(t, row.plays, row.judgments, row.relief...))
		want(t, "the error of Charges: "+what, e, api.OK)
		want(t, "Charges: "+what, charges, row.charges)
	}
}

func TestLines(t *testing.T) {
	for what, row := range map[string]struct {
		plays     string
		judgments string
		relief    []int
		lines     []earned.Line
		team      earned.Line
	}{
		"no plays":                  {"", "", nil, []earned.Line{{}}, earned.Line{}},
		"one pitcher":               {one + pair, "", nil, []earned.Line{{Runs: 2, Earned: 2}}, earned.Line{Runs: 2, Earned: 2}},
		"an inherited run":          {one + pair, "", []int{1}, []earned.Line{{Runs: 1, Earned: 1}, {1, 1, 1, 1, 1}}, earned.Line{Runs: 2, Earned: 2}},
		"nobody is inherited":       {homer + homer, "", []int{1}, []earned.Line{{Runs: 1, Earned: 1}, {1, 1, 1, 0, 0}}, earned.Line{Runs: 2, Earned: 2}},
		"who is inherited is out":   {one + "C - 1x2g:26", "", []int{1}, []earned.Line{{}, {1, 0, 0, 1, 0}}, earned.Line{}},
		"who is inherited twice":    {one + "C -;" + pair, "", []int{1, 2}, []earned.Line{{Runs: 1, Earned: 1}, {1, 0, 0, 1, 1}, {2, 1, 1, 1, 1}}, earned.Line{Runs: 2, Earned: 2}},
		"all bases are inherited":   {loaded + "X X 3-4b 2-4b 1-2b 0-1b", "", []int{3}, []earned.Line{{Runs: 2, Earned: 2}, {3, 0, 0, 3, 2}}, earned.Line{Runs: 2, Earned: 2}},
		"no effect of earlier outs": {gone + gone + one + pair, "2 0 life 0 6", []int{3}, []earned.Line{{Runs: 1}, {3, 1, 1, 1, 1}}, earned.Line{Runs: 2}},
		"a run that is not earned":  {"X X 0-4b:8;" + homer, "0 0 life 0 8", []int{1}, []earned.Line{{Runs: 1}, {1, 1, 1, 0, 0}}, earned.Line{Runs: 2, Earned: 1}},
		"a run that is taken over":  {one + force + "X X 1-4b 0-4b", "1 0 choice 0 0", []int{1}, []earned.Line{{Runs: 1, Earned: 1}, {1, 1, 1, 1, 0}}, earned.Line{Runs: 2, Earned: 2}},
		"each pitcher by himself":   {one + "C -;X X 1-2b 0-1b:6;X X 2-4b 1-4b 0-4b", "2 0 life 0 6", []int{1, 3}, []earned.Line{{Runs: 1, Earned: 1}, {1, 1, 0, 1, 1}, {3, 1, 1, 2, 2}}, earned.Line{Runs: 3, Earned: 2}},
		"a run that does not count": {gone + gone + three + "X X 3-4b 0x1f:63", "", []int{3}, []earned.Line{{}, {3, 0, 0, 1, 0}}, earned.Line{}},
		"relief in the turn":        {one + "BB -;BB W 1-2a 0-1a;X X 2-4b 1-4b 0-4b", "", []int{2, 3}, []earned.Line{{Runs: 1, Earned: 1}, {2, 1, 1, 1, 1}, {3, 1, 1, 2, 2}}, earned.Line{Runs: 3, Earned: 3}},
	} {
		h := inning(t, row.plays, row.judgments, row.relief...)
		lines, e := earned.Lines(h)
		want(t, "the error of Lines: "+what, e, api.OK)
		want(t, "Lines: "+what, lines, row.lines)
		team, e := earned.Team(h)
		want(t, "Team: "+what, []any{team, e}, []any{row.team, api.OK})
	}
}

func TestAverage(t *testing.T) {
	for _, row := range []struct {
		earned, outs int
		r            api.Ratio
		e            api.Errno
	}{
		{3, 20, api.Ratio{Num: 81, Den: 20}, api.OK},
		{1, 27, api.Ratio{Num: 1, Den: 1}, api.OK},
		{2, 12, api.Ratio{Num: 9, Den: 2}, api.OK},
		{0, 7, api.Ratio{Num: 0, Den: 1}, api.OK},
		{1000000, 1, api.Ratio{Num: 27000000, Den: 1}, api.OK},
		{1, 1000000, api.Ratio{Num: 27, Den: 1000000}, api.OK},
		{1000000, 1000000, api.Ratio{Num: 27, Den: 1}, api.OK},
		{0, 0, api.Ratio{}, api.ErrZero},
		{5, 0, api.Ratio{}, api.ErrZero},
		{-1, 3, api.Ratio{}, api.ErrRange},
		{1000001, 3, api.Ratio{}, api.ErrRange},
		{3, -1, api.Ratio{}, api.ErrRange},
		{3, 1000001, api.Ratio{}, api.ErrRange},
		{-1, 0, api.Ratio{}, api.ErrRange},
		{1 << 62, 1 << 62, api.Ratio{}, api.ErrRange},
		{-1 << 63, 1, api.Ratio{}, api.ErrRange},
	} {
		r, e := earned.Average(row.earned, row.outs)
		want(t, "Average", []any{r, e}, []any{row.r, row.e})
	}
}
