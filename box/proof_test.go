package box_test

import (
	"slices"
	"testing"

	"dugout/api"
	"dugout/box"
)

// equationList are the equations of the document.
var equationList = []string{"turns", "bases", "hits", "runs", "hits against", "walks", "strikeouts", "hit batters", "putouts", "innings", "batted in"}

func TestEquations(t *testing.T) {
	l := box.Equations()
	want(t, "Equations", l, equationList)
	l[0] = "spoiled"
	want(t, "Equations again", box.Equations(), equationList)
}

// swapped returns a box with both sides exchanged.
func swapped(b box.Box) box.Box {
	var x box.Box
	for _, l := range b.Lines {
		l.Side = 1 - l.Side
		x.Lines = append(x.Lines, l)
	}
	slices.SortStableFunc(x.Lines, func(a, b box.Line) int { return a.Side - b.Side })
	for _, runs := range b.Innings {
		x.Innings = append(x.Innings, [2]int{runs[1], runs[0]})
	}
	x.Rest = [2]int{b.Rest[1], b.Rest[0]}
	return x
}

// balanced returns a box in which all equations hold, and all of their kinds are counted: by two players of each side.
func balanced() box.Box {
	return box.Box{
		Lines: lines(
			"0 a turn 9 ab 4 h 3 d 1 t 1 hr 1 r 2 rbi 2 w 1 k 1 hp 1 ci 1 sac 2 lob 1",
			"0 b turn 1 ab 1 h 1 r 1 rbi 1 po 2 out 2",
			"1 a po 4 out 4",
			"1 b turn 2 ab 2 ha 4 wa 1 ka 1 hb 1 ra 3",
		),
		Innings: [][2]int{{1, 0}, {0, 0}, {2, 0}},
		Rest:    [2]int{2, 0},
	}
}

// Each equation is broken by some changes of the box that balances.
func TestProve(t *testing.T) {
	for _, row := range []struct {
		player, kind string
		more         int
		equation     int
	}{
		{"0 a", "turn", 1, 1}, {"0 b", "turn", -1, 1}, {"0 a", "ab", 1, 1}, {"0 a", "w", 1, 1}, {"0 a", "hp", -1, 1}, {"0 a", "ci", 1, 1}, {"0 a", "sac", 1, 1},
		{"0 a", "r", 1, 2}, {"0 b", "r", -1, 2}, {"0 a", "lob", 1, 2}, {"1 a", "out", 1, 2}, {"1 b", "out", -1, 2},
		{"0 a", "h", -2, 3}, {"0 b", "d", 2, 3}, {"0 b", "t", 2, 3}, {"0 a", "hr", 2, 3},
		{"1 b", "ra", 1, 4}, {"1 a", "ra", -1, 4},
		{"0 a", "h", 1, 5}, {"0 b", "h", -1, 5}, {"1 b", "ha", 1, 5},
		{"1 b", "wa", 1, 6}, {"1 a", "wa", -1, 6},
		{"0 a", "k", 1, 7}, {"0 b", "k", -1, 7}, {"1 b", "ka", 1, 7},
		{"1 b", "hb", 1, 8}, {"1 a", "hb", -1, 8},
		{"1 a", "po", 1, 9}, {"1 b", "po", -1, 9},
		{"0 a", "rbi", 1, 11}, {"0 b", "rbi", 3, 11},
		{"0 a", "rbi", -5, 0}, {"0 a", "d", 1, 0}, {"0 a", "hr", -9, 0},
		{"0 a", "sb", 3, 0}, {"0 a", "cs", 3, 0}, {"1 b", "a", 5, 0}, {"1 b", "e", 5, 0}, {"1 b", "dp", 5, 0}, {"1 b", "pb", 5, 0}, {"1 b", "wp", 5, 0}, {"1 b", "bk", 5, 0},
	} {
		b := balanced()
		for i, l := range b.Lines {
			more := line(row.player + " " + row.kind + " 1")
			if l.Side == more.Side && l.Player == more.Player {
				b.Lines[i].Counts[slices.Index(kindList, row.kind)] += row.more
			}
		}
		expectProof(t, row.player+" "+row.kind, b, row.equation)
	}
	expectProof(t, "nothing changed", balanced(), 0)
	expectProof(t, "nothing", box.Box{}, 0)
	b := balanced()
	b.Rest[0]++
	expectProof(t, "a rest", b, 2)
	b = balanced()
	b.Innings[1][0]++
	expectProof(t, "a run of an inning", b, 10)
	b.Innings[0][0]--
	expectProof(t, "runs of other innings", b, 0)
	b = balanced()
	b.Innings = nil
	expectProof(t, "no innings", b, 10)
}

// expectProof expects an equation of side 0 to be the first one that fails, or none (0), and the same for side 1 if both sides are exchanged.
func expectProof(t *testing.T, what string, b box.Box, equation int) {
	t.Helper()
	err := api.OK
	if equation > 0 {
		err = api.ErrBalance
	}
	side, n, e := box.Prove(b)
	want(t, "Prove: "+what, []any{side, n, e}, []any{0, equation, err})
	side, n, e = box.Prove(swapped(b))
	want(t, "Prove, with sides exchanged: "+what, []any{side, n, e}, []any{min(equation, 1), equation, err})
}

// Of several equations that fail the first one of side 0 is told.
func TestFirstEquationThatFails(t *testing.T) {
	for what, row := range map[string]struct {
		box     box.Box
		side, n int
	}{
		"a putout of side 0 is one against side 1": {box.Box{Lines: lines("0 a po 1")}, 1, 9},
		"a run of side 1 and a turn of side 0":     {box.Box{Lines: lines("0 a turn 1", "1 a r 1")}, 0, 1},
		"a walk of side 0, and of side 1":          {box.Box{Lines: lines("0 a wa 1", "1 a wa 1")}, 0, 6},
		"a strikeout against side 1, an rbi":       {box.Box{Lines: lines("0 a rbi 1 ka 1")}, 0, 11},
		"a rest of side 1":                         {box.Box{Rest: [2]int{0, 1}}, 1, 2},
		"runs of both sides":                       {box.Box{Innings: [][2]int{{1, 1}}}, 0, 10},
		"runs of side 1":                           {box.Box{Innings: [][2]int{{1, 1}, {-1, 1}}}, 1, 10},
	} {
		side, n, e := box.Prove(row.box)
		want(t, "Prove: "+what, []any{side, n, e}, []any{row.side, row.n, api.ErrBalance})
	}
}

// A sum that is too large is told before an equation that fails.
func TestProofsThatAreTooLarge(t *testing.T) {
	for _, kind := range kindList {
		for _, side := range []string{"0", "1"} {
			for _, n := range []string{"500000000", "-500000000"} {
				b := box.Box{Lines: lines(side+" a "+kind+" "+n, side+" b "+kind+" "+n)}
				got, at, e := box.Prove(b)
				want(t, "Prove with a large sum of "+kind, []any{got, at, e}, []any{0, 0, api.ErrLarge})
			}
		}
		b := box.Box{Lines: lines("0 a "+kind+" 999999999", "1 a "+kind+" 999999999")}
		_, _, e := box.Prove(b)
		want(t, "Prove with no large sum of "+kind, e == api.ErrLarge, false)
	}
	for side := range 2 {
		for _, n := range []int{500000000, -500000000} {
			b := box.Box{Innings: make([][2]int, 2)}
			b.Innings[0][side], b.Innings[1][side] = n, n
			got, at, e := box.Prove(b)
			want(t, "Prove with large runs", []any{got, at, e}, []any{0, 0, api.ErrLarge})
			b.Innings[1][side] = -n
			got, at, e = box.Prove(b)
			want(t, "Prove with runs that come back", []any{got, at, e}, []any{0, 0, api.OK})
			b.Innings[1][side] = n - n/500000000
			_, at, e = box.Prove(b)
			want(t, "Prove with runs at the limit", []any{at, e}, []any{10, api.ErrBalance})
		}
	}
	// What an equation adds up may be larger than a number.
	b := box.Box{Lines: lines("0 a ab 999999999 w 999999999 hp -999999999 ci -999999999 r 999999999 lob -999999999", "1 a ra 999999999 hb -999999999 wa 999999999"), Innings: [][2]int{{999999999, 0}}}
	side, n, e := box.Prove(b)
	want(t, "Prove with large sums of kinds", []any{side, n, e}, []any{0, 0, api.OK})
	b.Rest[0] = 999999999
	side, n, e = box.Prove(b)
	want(t, "Prove with a large rest", []any{side, n, e}, []any{0, 2, api.ErrBalance})
}
