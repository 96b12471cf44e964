package earned_test

import (
	"slices"
	"strings"
	"testing"

	"dugout/api"
	"dugout/earned"
	"dugout/play"
)

func TestCheckHalf(t *testing.T) {
	for what, h := range map[string]earned.Half{
		"the example":                inning(t, doc, docLife+"2 0 choice 0 0", 3),
		"no plays":                   {},
		"one that has not ended":     inning(t, one+"B -", ""),
		"one that ends":              inning(t, gone+gone+gone, ""),
		"one that ends in a pitch":   inning(t, one+gone+gone+"C - 1x2g:26", ""),
		"relief before each play":    inning(t, one+gone+gone+gone, "", 1, 2, 3),
		"relief before the last one": inning(t, one+gone, "", 1),
		"the greatest lists":         long(t, 762),
		"judgments of each kind":     inning(t, "X X 0-1b:6;B - 1-2p:2;C - 2-3s:25;X X 3-4b:8 0-1t:8", "0 0 life 0 6;1 1 error 1 2;1 1 passed 0 0;2 2 idle 0 0;3 3 life 0 8;3 0 choice 0 0;3 0 sacrifice 0 0"),
	} {
		want(t, "CheckHalf: "+what, earned.CheckHalf(h), api.OK)
	}
	relief := make([]int, api.MaxPlays-1)
	for i := range relief {
		relief[i] = i + 1
	}
	h := long(t, 0)
	h.Relief = relief
	want(t, "CheckHalf: the greatest relief", earned.CheckHalf(h), api.OK)
	h.Relief = append(relief, api.MaxPlays)
	want(t, "CheckHalf: relief behind the last play", earned.CheckHalf(h), api.ErrRange)
	for what, row := range wrongHalves(t) {
		want(t, "CheckHalf: "+what, earned.CheckHalf(row.h), row.err)
	}
}

// TestWrongHalves expects the error of a half from each function, whatever the other arguments are.
func TestWrongHalves(t *testing.T) {
	for what, row := range wrongHalves(t) {
		h := row.h
		expect := func(name string, e api.Errno, isNothing bool) {
			t.Helper()
			want(t, name+": "+what, []any{e, isNothing}, []any{row.err, true})
		}
		runners, e := earned.Runners(h)
		expect("Runners", e, len(runners) == 0)
		bases, e := earned.Bases(h)
		expect("Bases", e, len(bases) == 0)
		places, e := earned.Places(h, -1)
		expect("Places", e, len(places) == 0)
		outs, e := earned.Outs(h, -1)
		expect("Outs", e, len(outs) == 0)
		third, e := earned.Third(h, -1)
		expect("Third", e, third == 0)
		runs, e := earned.Runs(h)
		expect("Runs", e, len(runs) == 0)
		runs, e = earned.Earned(h, -1)
		expect("Earned", e, len(runs) == 0)
		runs, e = earned.Unearned(h, -1)
		expect("Unearned", e, len(runs) == 0)
		c, e := earned.Certify(h, -1, -1)
		expect("Certify", e, c.Runner == 0 && !c.Earned && c.Play == 0 && len(c.Outs) == 0)
		expect("CheckCertificate", earned.CheckCertificate(h, -1, earned.Certificate{Runner: -1}), true)
		doubts, e := earned.Doubts(h, -1)
		expect("Doubts", e, len(doubts) == 0)
		runs, e = earned.Reckon(h, -1, []earned.Extra{{-1, -1, -1}})
		expect("Reckon", e, len(runs) == 0)
		pitcher, e := earned.Pitcher(h, -1)
		expect("Pitcher", e, pitcher == 0)
		charges, e := earned.Charges(h)
		expect("Charges", e, len(charges) == 0)
		lines, e := earned.Lines(h)
		expect("Lines", e, len(lines) == 0)
		team, e := earned.Team(h)
		expect("Team", e, team == earned.Line{})
	}
}

func TestRunners(t *testing.T) {
	for _, row := range []struct {
		what    string
		plays   string
		runners []earned.Runner
		bases   [][3]int
		runs    []int
	}{
		{"no plays", "", nil, [][3]int{{}}, nil},
		{"a turn that goes on", "B -;F -", nil, [][3]int{{}, {}, {}}, nil},
		{"a batter who is out", gone, []earned.Runner{{0, -1, 0}}, [][3]int{{}, {}}, nil},
		{"a home run", "B -;" + homer, []earned.Runner{{1, 1, -1}}, [][3]int{{}, {}, {}}, []int{1}},
		{"a run in an empty event", three + "B - 3-4p;" + gone, []earned.Runner{{0, 1, -1}, {2, -1, 2}}, [][3]int{{}, {0, 0, 1}, {}, {}}, []int{1}},
		{"an out in an empty event", one + "C - 1x2g:26", []earned.Runner{{0, -1, 1}}, [][3]int{{}, {1, 0, 0}, {}}, nil},
		{"a double play", one + "X X 1x2f:64 0x1f:643", []earned.Runner{{0, -1, 1}, {1, -1, 1}}, [][3]int{{}, {1, 0, 0}, {}}, nil},
		{"one for another", one + "X X 1x2f:64 0-1b;C - 1-2s", []earned.Runner{{0, -1, 1}, {1, -1, -1}}, [][3]int{{}, {1, 0, 0}, {2, 0, 0}, {0, 2, 0}}, nil},
		{"the half ends", one + gone + gone + gone, []earned.Runner{{0, -1, -1}, {1, -1, 1}, {2, -1, 2}, {3, -1, 3}}, [][3]int{{}, {1, 0, 0}, {1, 0, 0}, {1, 0, 0}, {}}, nil},
		{"a run that does not count", gone + gone + three + "CCS K 3-4t 0x1k:2", []earned.Runner{{0, -1, 0}, {1, -1, 1}, {2, -1, -1}, {3, -1, 3}}, [][3]int{{}, {}, {}, {0, 0, 3}, {}}, nil},
		{"a run that counts", gone + gone + two + "X X 2-4b 0x2g:84", []earned.Runner{{0, -1, 0}, {1, -1, 1}, {2, 3, -1}, {3, -1, 3}}, [][3]int{{}, {}, {}, {0, 3, 0}, {}}, []int{3}},
		{"a late run", gone + gone + two + "X X late 2-4b 0x2g:84", []earned.Runner{{0, -1, 0}, {1, -1, 1}, {2, -1, -1}, {3, -1, 3}}, [][3]int{{}, {}, {}, {0, 3, 0}, {}}, nil},
		{"all come home", one + "X X 1-2b 0-1b;X X 2-3b 1-2b 0-1b;X X 3-4b 2-4b 1-4b 0-4b", []earned.Runner{{0, 3, -1}, {1, 3, -1}, {2, 3, -1}, {3, 3, -1}}, [][3]int{{}, {1, 0, 0}, {2, 1, 0}, {3, 2, 1}, {}}, []int{1, 2, 3, 4}},
		{"who stays", three + one + "X X 1-2b 0-1b", []earned.Runner{{0, -1, -1}, {1, -1, -1}, {2, -1, -1}}, [][3]int{{}, {0, 0, 1}, {2, 0, 1}, {3, 2, 1}}, nil},
	} {
		h := inning(t, row.plays, "")
		runners, e := earned.Runners(h)
		want(t, "the error of Runners: "+row.what, e, api.OK)
		want(t, "Runners: "+row.what, runners, row.runners)
		bases, e := earned.Bases(h)
		want(t, "Bases: "+row.what, []any{bases, e}, []any{row.bases, api.OK})
		runs, e := earned.Runs(h)
		want(t, "the error of Runs: "+row.what, e, api.OK)
		want(t, "Runs: "+row.what, runs, row.runs)
	}
}

// TestRunnersOfManyTurns expects that who bats twice is two runners.
func TestRunnersOfManyTurns(t *testing.T) {
	h := inning(t, strings.Repeat(homer, 8)+two+"X X 2-3b 0-1b;X X 3-4b 1-2b 0-1b;", "")
	bases, e := earned.Bases(h)
	want(t, "Bases of eleven turns", []any{bases[8:], e}, []any{[][3]int{{}, {0, 9, 0}, {10, 0, 9}, {11, 10, 0}}, api.OK})
	h = long(t, 0)
	runners, _ := earned.Runners(h)
	bases, _ = earned.Bases(h)
	for i, r := range runners {
		expected := earned.Runner{Turn: i, Run: -1, Out: -1}
		if i+3 < api.MaxPlays {
			expected.Run = i + 3
		}
		want(t, "a runner of a long half", r, expected)
		if i >= 2 {
			want(t, "the bases of a long half", bases[i+1], [3]int{i + 1, i, i - 1})
		}
	}
	want(t, "the runners of a long half", len(runners), api.MaxPlays)
	runs, _ := earned.Runs(h)
	want(t, "the runs of a long half", []int{len(runs), runs[0], runs[252]}, []int{253, 1, 253})
}

// same reports a half that is not the expected one; nil and empty lists are equal.
func same(t *testing.T, what string, got, wanted earned.Half) {
	t.Helper()
	text, e := play.PrintAll(got.Plays)
	wantedText, _ := play.PrintAll(wanted.Plays)
	want(t, what+": the plays", []any{text, e}, []any{wantedText, api.OK})
	want(t, what+": the judgments", got.Judgments, wanted.Judgments)
	want(t, what+": the relief", got.Relief, wanted.Relief)
}

func TestSplit(t *testing.T) {
	over := gone + gone + gone
	pair := one + "X X 1-4b:8 0-2b:8;"
	tied := strings.Repeat(over, 17)
	for what, row := range map[string]struct {
		plays     string
		judgments string
		relief    []int
		halves    []earned.Half
	}{
		"no plays":                     {"", "", nil, nil},
		"a half":                       {one + "B -", docLife, []int{1}, []earned.Half{inning(t, one+"B -", docLife, 1)}},
		"relief before the first play": {one + gone, "", []int{0, 1}, []earned.Half{inning(t, one+gone, "", 1)}},
		"a half that ends":             {over, "", []int{2}, []earned.Half{inning(t, over, "", 2)}},
		"two halves":                   {over + pair, "3 0 life 0 6;4 1 error 2 8", []int{3, 4}, []earned.Half{inning(t, over, ""), inning(t, pair, "0 0 life 0 6;1 1 error 2 8", 1)}},
		"three halves":                 {one + over + over + pair, "0 0 hit 1 0;7 0 life 0 6", []int{0, 1, 3, 4, 6, 8}, []earned.Half{inning(t, one+over, "0 0 hit 1 0", 1, 3), inning(t, over, "", 2), inning(t, pair, docLife, 1)}},
		"the second play of each":      {over + over + pair, "6 0 hit 1 0", []int{1, 4, 7}, []earned.Half{inning(t, over, "", 1), inning(t, over, "", 1), inning(t, pair, "0 0 hit 1 0", 1)}},
		"the game ends":                {tied + three + "X X 3-4b 0-1b", "51 0 life 0 8", []int{52}, append(slices.Repeat([]earned.Half{inning(t, over, "")}, 17), inning(t, three+"X X 3-4b 0-1b", "0 0 life 0 8", 1))},
	} {
		halves, e := earned.Split(acts(t, row.plays), rulings(row.judgments), row.relief)
		want(t, "the error of Split: "+what, e, api.OK)
		if len(halves) != len(row.halves) {
			t.Errorf("Split: %s: got %d halves, want %d", what, len(halves), len(row.halves))
			continue
		}
		for i := range halves {
			same(t, "Split: "+what, halves[i], row.halves[i])
			want(t, "a half of Split: "+what, earned.CheckHalf(halves[i]), api.OK)
		}
	}
}

func TestSplitWrong(t *testing.T) {
	expect := func(what string, h earned.Half, err api.Errno) {
		t.Helper()
		halves, e := earned.Split(h.Plays, h.Judgments, h.Relief)
		want(t, "Split: "+what, []any{len(halves), e}, []any{0, err})
	}
	for what, row := range wrongHalves(t) {
		isGame := row.err == api.ErrOver || strings.HasPrefix(what, "relief")
		if !isGame {
			expect(what, row.h, row.err)
		}
	}
	g := one + gone + gone + gone + one + gone
	expect("relief before the game", inning(t, g, "", -1, -2), api.ErrRange)
	expect("relief behind the game", inning(t, g, "", 6, 6), api.ErrRange)
	expect("relief twice", inning(t, g, "", 5, 5), api.ErrOrder)
	expect("relief twice at first", inning(t, g, "", 0, 0, 9), api.ErrOrder)
	expect("relief in a wrong order", inning(t, g, "", 0, 5, 4), api.ErrOrder)
	expect("relief out of range behind", inning(t, g, "", 3, -1), api.ErrRange)
	expect("relief of no plays", inning(t, "", "", 0), api.ErrRange)
	expect("judgments behind the half", inning(t, g, "6 0 hit 1 0", -1), api.ErrUnknown)
	halves, e := earned.Split(acts(t, g), nil, []int{0, 1, 2, 3, 4, 5})
	want(t, "Split: relief at each play", []any{len(halves), e, halves[0].Relief, halves[1].Relief}, []any{2, api.OK, []int{1, 2, 3}, []int{1}})
}
