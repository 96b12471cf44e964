package box_test

import (
	"math"
	"strconv"
	"testing"

	"dugout/api"
	"dugout/box"
)

func TestCheckGame(t *testing.T) {
	for what, g := range map[string]box.Game{
		"G":                       example(),
		"H":                       shutout(),
		"no plays":                {Teams: teams()},
		"changes behind the game": {Teams: teams(), Changes: changes("0 0 1 c 2", "256 1 9 d 1")},
		"judgments":               with(func(g *box.Game) { g.Judgments = rulings("0 0 life 0 6", "1 1 passed 0 0", "2 0 error 1 2") }),
		"as many as possible":     crowd(6),
	} {
		want(t, "CheckGame: "+what, box.CheckGame(g), api.OK)
	}
	for what, x := range wrongGames() {
		want(t, "CheckGame: "+what, box.CheckGame(x.game), x.err)
	}
}

// All functions return the error of the game before that of any other argument.
func TestWrongGames(t *testing.T) {
	for what, x := range wrongGames() {
		b, e := box.Compute(x.game)
		want(t, "Compute: "+what, []any{isEmpty(b), e}, []any{true, x.err})
		b, e = box.Part(x.game, -1, -2)
		want(t, "Part: "+what, []any{isEmpty(b), e}, []any{true, x.err})
		p, e := box.Pitching(x.game)
		want(t, "Pitching: "+what, []any{len(p), e}, []any{0, x.err})
		n, e := box.Earned(x.game)
		want(t, "Earned: "+what, []any{n, e}, []any{[2]int{}, x.err})
		d, e := box.Decide(x.game)
		want(t, "Decide: "+what, []any{d, e}, []any{box.Decision{}, x.err})
	}
}

func TestPartOfNoPlays(t *testing.T) {
	for _, row := range []struct {
		from, to int
		err      api.Errno
	}{
		{0, 0, api.OK}, {1, 1, api.OK}, {2, 2, api.OK}, {3, 3, api.OK},
		{-1, 0, api.ErrRange}, {-1, -1, api.ErrRange}, {math.MinInt, 3, api.ErrRange},
		{4, 4, api.ErrRange}, {math.MaxInt, math.MaxInt, api.ErrRange},
		{0, -1, api.ErrRange}, {2, 1, api.ErrRange}, {3, 2, api.ErrRange}, {1, math.MinInt, api.ErrRange},
		{0, 4, api.ErrRange}, {3, 4, api.ErrRange}, {0, math.MaxInt, api.ErrRange},
	} {
		b, e := box.Part(example(), row.from, row.to)
		want(t, "Part", []any{row.from, row.to, isEmpty(b), e}, []any{row.from, row.to, true, row.err})
	}
	b, e := box.Compute(box.Game{Teams: teams()})
	want(t, "Compute without plays", []any{isEmpty(b), e}, []any{true, api.OK})
	b, e = box.Part(box.Game{Teams: teams()}, 0, 1)
	want(t, "Part without plays", []any{isEmpty(b), e}, []any{true, api.ErrRange})
}

// busy returns a game in which players and positions change within halves, and with credits of many kinds.
func busy() box.Game {
	g := gameOf(
		single,                      // 0: a1
		"BBBB W 1-2a 0-1a",          // 1: a2; c pitches
		"C - 2-3p 1-2p",             // 2: a passed ball of d, and b1 plays in position 5
		"X X 3-4b 2-3b 0x1f:63",     // 3: a sacrifice of a3
		"X X 3-4t:82 0-1t:54",       // 4: an error of b1 helps a4
		"X X 1x2f:64 0x1f:643",      // 5: a5
		"H H 0-1a",                  // 6: b1
		"- - 1-2s:26",               // 7: e runs for b1
		"CCC K 2x3g:25 0x1k:2",      // 8: b2
		"B -",                       // 9: b3
		"X X 0-3b:8",                // 10: b3
		"- - 3-4k",                  // 11: b3
		"X X 0x1c:8",                // 12: d; a8 pitches, and a9 plays in position 9
		single, "X X 1-2b:7 0-1b:7", // 13, 14: a6, a7
	)
	g.Changes = changes("1 1 9 c 1", "2 1 1 b1 5", "2 1 4 d 2", "7 1 1 e 5", "12 0 8 a8 1", "12 0 9 a9 9")
	g.Judgments = rulings("2 2 passed 0 0", "3 0 sacrifice 0 0", "4 0 life 0 5")
	return g
}

func TestCompute(t *testing.T) {
	b, e := box.Compute(busy())
	want(t, "the error of Compute", e, api.OK)
	wantBox(t, "the box", b, box.Box{
		Lines: lines(
			"0 a1 turn 1 ab 1 h 1 r 1 po 1 a 1 dp 1",
			"0 a2 turn 1 r 1 w 1",
			"0 a3 turn 1 rbi 1 sac 1",
			"0 a4 turn 1 ab 1 po 1 dp 1",
			"0 a5 turn 1 ab 1",
			"0 a6 turn 1 ab 1 h 1",
			"0 a7 turn 1 ab 1 h 1 po 1",
			"0 a8 out 1",
			"0 a9 out 2 ha 1 ka 1 hb 1 ra 1 bk 1",
			"1 b1 turn 1 hp 1 e 1",
			"1 b2 turn 1 ab 1 k 1 po 2 dp 1",
			"1 b3 turn 1 ab 1 h 1 t 1 r 1 po 1 a 1 dp 1",
			"1 b5 a 3 dp 1",
			"1 b9 ha 1",
			"1 c out 3 ha 2 wa 1 ra 2",
			"1 d turn 1 ab 1 pb 1",
			"1 e sb 1 cs 1",
		),
		Innings: [][2]int{{2, 1}, {0, 0}},
		Rest:    [2]int{2, 0},
	})
	side, n, e := box.Prove(b)
	want(t, "it balances", []any{side, n, e}, []any{0, 0, api.OK})
}

func TestPart(t *testing.T) {
	for _, row := range []struct {
		from, to int
		box      box.Box
	}{
		{0, 1, box.Box{Lines: lines("0 a1 turn 1 ab 1 h 1", "1 b9 ha 1"), Innings: make([][2]int, 1), Rest: [2]int{1, 0}}},
		{2, 4, box.Box{
			Lines:   lines("0 a1 r 1", "0 a3 turn 1 rbi 1 sac 1", "1 b2 po 1", "1 b5 a 1", "1 c out 1 ra 1", "1 d pb 1"),
			Innings: [][2]int{{1, 0}},
			Rest:    [2]int{-1, 0},
		}},
		{5, 7, box.Box{
			Lines:   lines("0 a5 turn 1 ab 1", "0 a9 hb 1", "1 b1 turn 1 hp 1", "1 b2 po 1 dp 1", "1 b3 po 1 a 1 dp 1", "1 b5 a 2 dp 1", "1 c out 2"),
			Innings: make([][2]int, 1),
			Rest:    [2]int{-1, 1},
		}},
		{9, 10, box.Box{Innings: make([][2]int, 1)}},
		{11, 12, box.Box{Lines: lines("0 a9 ra 1 bk 1", "1 b3 r 1"), Innings: [][2]int{{0, 1}}, Rest: [2]int{0, -1}}},
		{12, 13, box.Box{Lines: lines("0 a7 po 1", "0 a8 out 1", "1 d turn 1 ab 1"), Innings: make([][2]int, 1)}},
		{12, 14, box.Box{
			Lines:   lines("0 a6 turn 1 ab 1 h 1", "0 a7 po 1", "0 a8 out 1", "1 c ha 1", "1 d turn 1 ab 1"),
			Innings: make([][2]int, 2),
			Rest:    [2]int{1, 0},
		}},
		{14, 15, box.Box{Lines: lines("0 a7 turn 1 ab 1 h 1", "1 c ha 1"), Innings: make([][2]int, 2), Rest: [2]int{1, 0}}},
	} {
		b, e := box.Part(busy(), row.from, row.to)
		want(t, "the error of Part", e, api.OK)
		wantBox(t, "the plays from "+strconv.Itoa(row.from)+" to "+strconv.Itoa(row.to), b, row.box)
	}
}

// The plays that end a game leave nobody on the bases.
func TestRestOfAGameThatIsOver(t *testing.T) {
	g := gameOf(51, strikeout, single, homer)
	g.Plays[52] = acts("X X 1-4b 0-2b")[0]
	b, e := box.Compute(g)
	want(t, "the error of Compute", e, api.OK)
	want(t, "the rest", b.Rest, [2]int{0, 0})
	want(t, "the innings", b.Innings, append(make([][2]int, 8), [2]int{0, 1}))
	want(t, "who is left on base", count(b, 1, "b8", "lob"), 1)
	b, _ = box.Part(g, 52, 53)
	want(t, "the rest of the last play", b.Rest, [2]int{0, -1})
	want(t, "the innings of the last play", b.Innings, append(make([][2]int, 8), [2]int{0, 1}))
}

// Players are ordered by the bytes of their names.
func TestOrderOfLines(t *testing.T) {
	g := gameOf(9, homer)
	copy(g.Teams[0].Batters[:], []string{"b", "a_", "aZ", "a", "B", "a0", "aa", "A", "a00"})
	b, e := box.Compute(g)
	want(t, "the error of Compute", e, api.OK)
	var names []string
	for _, l := range b.Lines {
		names = append(names, l.Player)
	}
	want(t, "the players", names, []string{"A", "B", "a", "a0", "a00", "aZ", "a_", "aa", "b", "b9"})
}

func TestLongGames(t *testing.T) {
	b, e := box.Compute(crowd(6))
	want(t, "the error of Compute", e, api.OK)
	want(t, "runs", b.Innings, [][2]int{{253, 0}})
	want(t, "rest", b.Rest, [2]int{3, 0})
	want(t, "the errors of the pitcher", count(b, 1, "b9", "e"), 762)
	want(t, "the sacrifices", count(b, 0, "a2", "sac"), 1)
	g := gameOf(180, strikeout)
	b, e = box.Compute(g)
	want(t, "the error of Compute of 30 innings", e, api.OK)
	want(t, "30 innings", b.Innings, make([][2]int, 30))
	want(t, "the outs of a pitcher", count(b, 0, "a9", "out"), 90)
}

// As many players as possible have credits.
func TestManyPlayers(t *testing.T) {
	g := gameOf(180, strikeout)
	for i := range 64 {
		g.Changes = append(g.Changes, change(strconv.Itoa(2*i)+" "+strconv.Itoa(i%2)+" 9 p"+strconv.Itoa(i)+" 1"))
	}
	b, e := box.Compute(g)
	want(t, "the error of Compute", e, api.OK)
	side, n, e := box.Prove(b)
	want(t, "it balances", []any{side, n, e}, []any{0, 0, api.OK})
	outs := 0
	for _, l := range b.Lines {
		outs += l.Counts[21]
	}
	want(t, "the outs of all", outs, 180)
	want(t, "the outs of one in between", count(b, 1, "p1", "out"), 1)
}
