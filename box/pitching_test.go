package box_test

import (
	"strings"
	"testing"

	"dugout/api"
	"dugout/box"
)

// pitcher returns the line of a pitcher with a string: the side, the player, the outs, the runs, the earned ones, and the runners whom he inherited and of whom he let score.
func pitcher(s string) box.Pitcher {
	w := strings.Split(s, " ")
	return box.Pitcher{Side: number(w[0]), Player: w[1], Outs: number(w[2]), Runs: number(w[3]), Earned: number(w[4]), Inherited: number(w[5]), Scored: number(w[6])}
}

// expectPitchers expects the lines of the pitchers of a game, and the earned runs of both sides.
func expectPitchers(t *testing.T, what string, g box.Game, earned [2]int, list ...string) {
	t.Helper()
	var wanted []box.Pitcher
	for _, s := range list {
		wanted = append(wanted, pitcher(s))
	}
	p, e := box.Pitching(g)
	want(t, "the error of Pitching: "+what, e, api.OK)
	want(t, "Pitching: "+what, p, wanted)
	n, e := box.Earned(g)
	want(t, "Earned: "+what, []any{n, e}, []any{earned, api.OK})
}

func TestPitching(t *testing.T) {
	g := example()
	expectPitchers(t, "G", g, [2]int{1, 0}, "1 b9 0 1 1 0 0")
	g.Changes = changes("2 1 9 c 1")
	expectPitchers(t, "a relief with a runner on base", g, [2]int{1, 0}, "1 b9 0 1 1 0 0", "1 c 0 0 0 1 1")
	g.Changes = changes("3 1 9 c 1")
	expectPitchers(t, "a relief behind the last play", g, [2]int{1, 0}, "1 b9 0 1 1 0 0")
	g.Changes = changes("0 1 9 c 1")
	expectPitchers(t, "a relief before the first play", g, [2]int{1, 0}, "1 c 0 1 1 0 0")
	g.Changes = changes("2 0 9 c 1")
	expectPitchers(t, "a relief of the side that bats", g, [2]int{1, 0}, "1 b9 0 1 1 0 0")
	g.Changes = changes("1 1 1 c 2", "2 1 7 d 9", "2 1 8 b8 8")
	expectPitchers(t, "no relief, but others come in", g, [2]int{1, 0}, "1 b9 0 1 1 0 0")
	expectPitchers(t, "no plays", box.Game{Teams: teams()}, [2]int{})
	expectPitchers(t, "H", shutout(), [2]int{1, 0}, "0 a9 27 0 0 0 0", "1 b9 27 1 1 0 0")
}

// The batter is safe by an error with two outs, and two runs come behind it: the side has no earned run, but the second pitcher has one, of the batter whom he faced.
func TestEarnedByPitchers(t *testing.T) {
	g := gameOf(2, groundout, "X X 0-1b:6", "X X 1-4b 0-4b", groundout, 2, homer)
	g.Judgments = rulings("2 0 life 0 6")
	expectPitchers(t, "one pitcher", g, [2]int{0, 2}, "0 a9 0 2 2 0 0", "1 b9 3 2 0 0 0")
	g.Changes = changes("3 1 9 c 1")
	expectPitchers(t, "two pitchers", g, [2]int{0, 2}, "0 a9 0 2 2 0 0", "1 b9 2 1 0 0 0", "1 c 1 1 1 1 1")
	g.Judgments = nil
	expectPitchers(t, "two pitchers without the error", g, [2]int{2, 2}, "0 a9 0 2 2 0 0", "1 b9 2 1 1 0 0", "1 c 1 1 1 1 1")
	// An error of the second half is about the plays of this half.
	g.Plays[6] = acts("X X 0-3b:8", "- - 3-4k")[0]
	g.Plays[5] = acts("X X 0-1b:4")[0]
	g.Plays = append(g.Plays[:6], acts("X X 1-4b:9 0-4b")...)
	g.Judgments = rulings("2 0 life 0 6", "5 0 life 0 4")
	expectPitchers(t, "an error in each half", g, [2]int{0, 1}, "0 a9 0 2 1 0 0", "1 b9 2 1 0 0 0", "1 c 1 1 1 1 1")
}

// A batter whom a choice brings to first base is charged to the pitcher of the runner who is out for him.
func TestChargesByChoice(t *testing.T) {
	g := gameOf(single, "X X 1x2f:64 0-1b:6", homer)
	g.Plays[2] = acts("X X 1-4b 0-4b")[0]
	g.Judgments = rulings("1 0 choice 0 0")
	g.Changes = changes("1 1 9 c 1")
	expectPitchers(t, "a choice", g, [2]int{2, 0}, "1 b9 0 1 1 0 0", "1 c 1 1 1 1 0")
	g.Judgments = nil
	expectPitchers(t, "a hit", g, [2]int{2, 0}, "1 b9 0 0 0 0 0", "1 c 1 2 2 1 0")
}

// The lines of all halves, and of all times at which a pitcher comes in, are added up.
func TestPitchersWhoComeBack(t *testing.T) {
	g := gameOf(
		single, "X X 1-2b 0-1b", "X X 2-3b 1-2b 0-1b", // b9, b8, b9
		"X X 3-4b 2-4b 1-4b 0-4b", 3, strikeout, // 3: b9; 4 to 6: b8, b9, b9
		3, strikeout, // 7 to 9: a9
		2, strikeout, homer, strikeout, // 10 to 13: b9, b9, b8, b8
	)
	swap := func(at, first, second string) []string {
		return []string{at + " 1 8 b8 " + first, at + " 1 9 b9 " + second}
	}
	var l []string
	l = append(l, swap("1", "1", "9")...)
	l = append(l, swap("2", "9", "1")...)
	l = append(l, swap("4", "1", "9")...)
	l = append(l, swap("5", "9", "1")...)
	l = append(l, swap("12", "1", "9")...)
	g.Changes = changes(l...)
	expectPitchers(t, "b8 and b9 by turns", g, [2]int{5, 0}, "0 a9 3 0 0 0 0", "1 b8 2 2 2 1 1", "1 b9 4 3 3 2 2")
	// The change before the first play of a half is none within a half.
	g.Changes = changes("10 1 9 c 1")
	expectPitchers(t, "c in the second inning", g, [2]int{5, 0}, "0 a9 3 0 0 0 0", "1 b9 3 4 4 0 0", "1 c 3 1 1 0 0")
	g.Changes = changes("8 1 9 c 1")
	expectPitchers(t, "c while his side bats", g, [2]int{5, 0}, "0 a9 3 0 0 0 0", "1 b9 3 4 4 0 0", "1 c 3 1 1 0 0")
}

// Pitchers are listed by sides, then by the bytes of their names, also those who have no outs and no runs.
func TestOrderOfPitchers(t *testing.T) {
	g := gameOf(6, strikeout)
	g.Changes = changes("1 1 9 a_ 1", "2 1 9 Z 1", "3 0 9 x 1", "4 0 9 X 1", "5 0 9 a90 1")
	expectPitchers(t, "three on each side", g, [2]int{}, "0 X 1 0 0 0 0", "0 a90 1 0 0 0 0", "0 x 1 0 0 0 0", "1 Z 1 0 0 0 0", "1 a_ 1 0 0 0 0", "1 b9 1 0 0 0 0")
	g = gameOf("B -", "B -", "C -", strikeout)
	g.Plays[3] = acts("CC K 0x1k:2")[0]
	g.Changes = changes("1 1 9 Z 1", "2 1 9 c 1")
	expectPitchers(t, "some who had no batter to the end", g, [2]int{}, "1 Z 0 0 0 0 0", "1 b9 0 0 0 0 0", "1 c 1 0 0 0 0")
}
