package rule_test

import (
	"testing"

	"dugout/api"
	"dugout/rule"
)

func TestReplay(t *testing.T) {
	l := plays(t, "BX X 0-1b", "C -", "X X 1x2f:64 0x1f:43", "X X 0-4b", "CCS K 0x1k:2", "BBBB W 0-1a")
	states, at, broken, e := rule.Replay(l)
	want(t, "the error", e, api.OK)
	want(t, "the index and the rule", [2]int{at, broken}, [2]int{})
	var list []string
	for _, s := range states {
		list = append(list, shown(t, s))
	}
	want(t, "the states", list, []string{
		"1t 0 0-0 000 11 0:0 on",
		"1t 0 0-0 100 21 0:0 on",
		"1t 0 0-1 100 21 0:0 on",
		"1t 2 0-0 000 31 0:0 on",
		"1t 2 0-0 000 41 1:0 on",
		"1b 0 0-0 000 51 1:0 on",
		"1b 0 0-0 100 52 1:0 on",
	})
	final, at, broken, e := rule.Final(l)
	want(t, "the error", e, api.OK)
	want(t, "the index and the rule", [2]int{at, broken}, [2]int{})
	want(t, "the last state", final, states[6])
}

func TestNoPlays(t *testing.T) {
	states, _, _, e := rule.Replay(nil)
	want(t, "Replay", states, []rule.State{rule.Start()})
	want(t, "Replay", e, api.OK)
	final, _, _, e := rule.Final([]api.Play{})
	want(t, "Final", final, rule.Start())
	want(t, "Final", e, api.OK)
	halves, e := rule.Halves(nil)
	want(t, "Halves", halves, []rule.Half{})
	want(t, "Halves", e, api.OK)
	line, e := rule.Line(nil)
	want(t, "Line", line, [][2]int{})
	want(t, "Line", e, api.OK)
}

// refusedGame expects all functions of plays to return an error, and two of them the index of a play and the number of a rule.
func refusedGame(t *testing.T, what string, l []api.Play, at, broken int, err api.Errno) {
	t.Helper()
	states, i, n, e := rule.Replay(l)
	want(t, what+", Replay", len(states), 0)
	want(t, what+", Replay, the index and the rule", [2]int{i, n}, [2]int{at, broken})
	want(t, what+", Replay", e, err)
	final, i, n, e := rule.Final(l)
	want(t, what+", Final", final, rule.State{})
	want(t, what+", Final, the index and the rule", [2]int{i, n}, [2]int{at, broken})
	want(t, what+", Final", e, err)
	halves, e := rule.Halves(l)
	want(t, what+", Halves", len(halves), 0)
	want(t, what+", Halves", e, err)
	line, e := rule.Line(l)
	want(t, what+", Line", len(line), 0)
	want(t, what+", Line", e, err)
}

func TestRefusedGames(t *testing.T) {
	refusedGame(t, "a rule", plays(t, "X X 0-1b", "- - 2-3s"), 1, 4, api.ErrRule)
	refusedGame(t, "the first rule", plays(t, "X X 0-1b", "- - 1-2s", "- - 1-2s", "X -"), 2, 4, api.ErrRule)
	refusedGame(t, "no play", append(plays(t, "X X 0-1b"), api.Play{Event: "Q"}), 1, 0, api.ErrKind)
	refusedGame(t, "a rule before no play", append(plays(t, "X -"), api.Play{Event: "Q"}), 0, 2, api.ErrRule)
	refusedGame(t, "no play before a rule", append([]api.Play{{Pitches: "Q"}}, plays(t, "X -")...), 0, 0, api.ErrPitch)
	refusedGame(t, "257 plays", plays(t, 257, "- -"), 0, 0, api.ErrMany)
	refusedGame(t, "257 plays, the first one wrong", plays(t, "X -", 256, "- -"), 0, 0, api.ErrMany)
	ended := plays(t, 51, "X X 0x1c:8", "X X 0-4b")
	refusedGame(t, "a play behind the end", append(ended, act(t, "- -")), 52, 0, api.ErrOver)
	refusedGame(t, "a rule behind the end", append(ended, act(t, "X -")), 52, 0, api.ErrOver)
	refusedGame(t, "no play behind the end", append(ended, api.Play{Event: "Q"}), 52, 0, api.ErrKind)
	final, _, _, e := rule.Final(ended)
	want(t, "the end", shown(t, final), "9b 0 0-0 000 18 0:1 over")
	want(t, "the end", e, api.OK)
	_, _, _, e = rule.Final(plays(t, 256, "- -"))
	want(t, "256 plays", e, api.OK)
}

func TestHalves(t *testing.T) {
	for _, x := range []struct {
		plays  []any
		halves []rule.Half
		line   [][2]int
	}{
		{
			[]any{"BX X 0-1b", "C -", "X X 1x2f:64 0x1f:43"},
			[]rule.Half{{Inning: 1, To: 3, Turns: 2, Outs: 2}},
			[][2]int{{0, 0}},
		},
		{
			[]any{"BX X 0-1b", "C -", "X X 1x2f:64 0x1f:43", "X X 0-4b", "CCS K 0x1k:2", "BBBB W 0-1a"},
			[]rule.Half{{Inning: 1, To: 5, Runs: 1, Turns: 4, Outs: 3}, {Inning: 1, Side: 1, From: 5, To: 6, Turns: 1, Left: 1}},
			[][2]int{{1, 0}},
		},
		{
			[]any{3, "X X 0x1c:8", 2, "X X 0-4b", 3, "X X 0x1c:8", "X X 0-3b"},
			[]rule.Half{{Inning: 1, To: 3, Turns: 3, Outs: 3}, {Inning: 1, Side: 1, From: 3, To: 8, Runs: 2, Turns: 5, Outs: 3}, {Inning: 2, From: 8, To: 9, Turns: 1, Left: 1}},
			[][2]int{{0, 2}, {0, 0}},
		},
		{
			[]any{"X X 0-1b", "X X 1-2b 0-1b", "X X 2-3b 1-2b 0-1b", 2, "X X 0x1c:8", "X X 3-4b 2-3b 1-2b 0x1f:63"},
			[]rule.Half{{Inning: 1, To: 6, Turns: 6, Outs: 3, Left: 3}},
			[][2]int{{0, 0}},
		},
		{
			[]any{"X X 0-1b", "- - 1x1g:13", "X X 0-1b", "- - 1x1g:13", "X X 0-2b", "C -", "- - 2x3g:25"},
			[]rule.Half{{Inning: 1, To: 7, Turns: 3, Outs: 3}},
			[][2]int{{0, 0}},
		},
		{
			[]any{"- -"},
			[]rule.Half{{Inning: 1, To: 1}},
			[][2]int{{0, 0}},
		},
	} {
		l := plays(t, x.plays...)
		halves, e := rule.Halves(l)
		want(t, "the halves", halves, x.halves)
		want(t, "the halves", e, api.OK)
		line, e := rule.Line(l)
		want(t, "the line", line, x.line)
		want(t, "the line", e, api.OK)
	}
}

func TestGameThatEndsWithoutItsLastHalf(t *testing.T) {
	l := plays(t, 3, "X X 0x1c:8", "X X 0-4b", 45, "X X 0x1c:8", "X X 0-1b", 3, "X X 0x1c:8")
	halves, e := rule.Halves(l)
	want(t, "the halves", e, api.OK)
	want(t, "their number", len(halves), 17)
	want(t, "the last one", halves[16], rule.Half{Inning: 9, From: 49, To: 53, Turns: 4, Outs: 3, Left: 1})
	line, _ := rule.Line(l)
	want(t, "the line", line, [][2]int{{0, 1}, {}, {}, {}, {}, {}, {}, {}, {}})
	refusedGame(t, "a play too many", append(l, act(t, "- -")), 53, 0, api.ErrOver)
}

func TestGameThatEndsWithARun(t *testing.T) {
	l := plays(t, 51, "X X 0x1c:8", "X X 0-2b", "X X 0x1c:8", "X X 2-4b 0-1b")
	halves, e := rule.Halves(l)
	want(t, "the halves", e, api.OK)
	want(t, "their number", len(halves), 18)
	want(t, "the last one", halves[17], rule.Half{Inning: 9, Side: 1, From: 51, To: 54, Runs: 1, Turns: 3, Outs: 1, Left: 1})
	line, _ := rule.Line(l)
	want(t, "the line", line, [][2]int{{}, {}, {}, {}, {}, {}, {}, {}, {0, 1}})
}

func TestLongestGame(t *testing.T) {
	l := plays(t, 180, "X X 0x1c:8")
	line, e := rule.Line(l)
	want(t, "30 innings", len(line), api.MaxExtra)
	want(t, "30 innings", e, api.OK)
	final, _, _, _ := rule.Final(l)
	want(t, "their end", shown(t, final), "30b 0 0-0 000 11 0:0 over")
	refusedGame(t, "a play too many", append(l, act(t, "- -")), 180, 0, api.ErrOver)
}
