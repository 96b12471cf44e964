package box_test

import (
	"reflect"
	"slices"
	"strconv"
	"strings"
	"testing"

	"dugout/api"
	"dugout/box"
	"dugout/lineup"
	"dugout/play"
)

// want reports a result that is not the expected one; nil and empty lists are equal.
func want(t *testing.T, what string, got, wanted any) {
	t.Helper()
	a, b := reflect.ValueOf(got), reflect.ValueOf(wanted)
	if a.Kind() == reflect.Slice && b.Kind() == reflect.Slice && a.Len() == 0 && b.Len() == 0 {
		return
	}
	if !reflect.DeepEqual(got, wanted) {
		t.Errorf("%s: got %v, want %v", what, got, wanted)
	}
}

// wantBox reports a box that is not the expected one; nil and empty lists are equal.
func wantBox(t *testing.T, what string, got, wanted box.Box) {
	t.Helper()
	want(t, what+", its lines", got.Lines, wanted.Lines)
	want(t, what+", its innings", got.Innings, wanted.Innings)
	want(t, what+", its rest", got.Rest, wanted.Rest)
}

// isEmpty reports whether a box is the zero value.
func isEmpty(b box.Box) bool {
	return len(b.Lines) == 0 && len(b.Innings) == 0 && b.Rest == [2]int{}
}

// kindList are the kinds of credits, in order.
var kindList = strings.Split("turn ab h d t hr r rbi w k hp ci sac sb cs lob po a e dp pb out ha wa ka hb ra wp bk", " ")

// rulingList are the kinds of judgments, in the order of their numbers.
var rulingList = []string{"hit", "life", "error", "choice", "wild", "passed", "steal", "idle", "sacrifice"}

// number returns the integer with a string.
func number(s string) int {
	n, err := strconv.Atoi(s)
	if err != nil {
		panic("no integer: " + s)
	}
	return n
}

// teams returns the teams T of the document's examples.
func teams() lineup.Teams {
	positions := [9]int{2, 3, 4, 5, 6, 7, 8, 9, 1}
	return lineup.Teams{
		{Batters: [9]string{"a1", "a2", "a3", "a4", "a5", "a6", "a7", "a8", "a9"}, Positions: positions},
		{Batters: [9]string{"b1", "b2", "b3", "b4", "b5", "b6", "b7", "b8", "b9"}, Positions: positions},
	}
}

// The strings of plays that many games have.
const (
	strikeout = "CCC K 0x1k:2"
	homer     = "X X 0-4b"
	single    = "X X 0-1b:6"
	groundout = "X X 0x1f:63"
)

// acts returns the plays of strings, each of them as often as the number before it says.
func acts(list ...any) []api.Play {
	var l []api.Play
	times := 1
	for _, x := range list {
		switch x := x.(type) {
		case int:
			times = x
		case string:
			p, _, e := play.Parse(x)
			if e != api.OK {
				panic("no play: " + x)
			}
			l = append(l, slices.Repeat([]api.Play{p}, times)...)
			times = 1
		}
	}
	return l
}

// gameOf returns the game of T with some plays.
func gameOf(list ...any) box.Game {
	return box.Game{Teams: teams(), Plays: acts(list...)}
}

// example returns the game G of the document's examples.
func example() box.Game {
	return gameOf("X X 0-1b:6", "C - 1-2p", "X X 2-4b:82 0-2t:82")
}

// shutout returns the game H of the document's examples.
func shutout() box.Game {
	return gameOf(homer, 54, strikeout)
}

// ruling returns the judgment with a string.
func ruling(s string) api.Judgment {
	w := strings.Split(s, " ")
	return api.Judgment{Play: number(w[0]), From: number(w[1]), Kind: w[2], Base: number(w[3]), Fielder: number(w[4]), Rule: 1 + slices.Index(rulingList, w[2])}
}

// rulings returns the judgments with strings.
func rulings(list ...string) []api.Judgment {
	var l []api.Judgment
	for _, s := range list {
		l = append(l, ruling(s))
	}
	return l
}

// change returns the change with a string: the play, the side, the slot, the player and the position.
func change(s string) lineup.Change {
	w := strings.Split(s, " ")
	return lineup.Change{Play: number(w[0]), Side: number(w[1]), Slot: number(w[2]), Player: w[3], Position: number(w[4])}
}

// changes returns the changes with strings.
func changes(list ...string) []lineup.Change {
	var l []lineup.Change
	for _, s := range list {
		l = append(l, change(s))
	}
	return l
}

// line returns the line with a string: the side, the player, and then kinds with their counts.
func line(s string) box.Line {
	w := strings.Fields(s)
	l := box.Line{Side: number(w[0]), Player: w[1]}
	for i := 2; i < len(w); i += 2 {
		kind := slices.Index(kindList, w[i])
		if kind < 0 {
			panic("no kind: " + w[i])
		}
		l.Counts[kind] = number(w[i+1])
	}
	return l
}

// lines returns the lines with strings.
func lines(list ...string) []box.Line {
	var l []box.Line
	for _, s := range list {
		l = append(l, line(s))
	}
	return l
}

// count returns the count of a kind in the line of a player; it is 0 if there is no line.
func count(b box.Box, side int, player, kind string) int {
	for _, l := range b.Lines {
		if l.Side == side && l.Player == player {
			return l.Counts[slices.Index(kindList, kind)]
		}
	}
	return 0
}

// wrong is a game that is none, with its error.
type wrong struct {
	game box.Game
	err  api.Errno
}

// with returns the game G, changed.
func with(change func(*box.Game)) box.Game {
	g := example()
	change(&g)
	return g
}

// wrongGames returns games that are none. Each of them has all errors that come behind its own.
func wrongGames() map[string]wrong {
	late := make([]api.Judgment, api.MaxJudgments+1)
	noPlays := acts(strikeout, single, "C - 2-3p")
	return map[string]wrong{
		"no name": {box.Game{Changes: changes("0 2 1 c 2"), Plays: noPlays, Judgments: late}, api.ErrName},
		"a player on both sides": {with(func(g *box.Game) {
			g.Teams[1].Batters[0], g.Changes, g.Plays, g.Judgments = "a1", changes("0 2 1 c 2"), noPlays, late
		}), api.ErrTwice},
		"a wrong change": {with(func(g *box.Game) { g.Changes, g.Plays, g.Judgments = changes("0 2 1 c 2"), noPlays, late }), api.ErrSide},
		"positions conflict": {with(func(g *box.Game) {
			g.Changes, g.Plays, g.Judgments = changes("0 0 1 c 3"), noPlays, late
		}), api.ErrConflict},
		"who comes back": {with(func(g *box.Game) {
			g.Changes, g.Plays, g.Judgments = changes("0 0 1 c 2", "1 0 1 a1 2"), noPlays, late
		}), api.ErrPlayer},
		"a play breaks a rule": {with(func(g *box.Game) { g.Plays, g.Judgments = noPlays, late }), api.ErrRule},
		"a play has no form": {with(func(g *box.Game) {
			g.Plays, g.Judgments = append(g.Plays, api.Play{Pitches: "Q"}), late
		}), api.ErrPitch},
		"too many plays":      {with(func(g *box.Game) { g.Plays, g.Judgments = acts(257, "F -"), late }), api.ErrMany},
		"a play too many":     {with(func(g *box.Game) { g.Plays, g.Judgments = append(shutout().Plays, acts(single)...), late }), api.ErrOver},
		"too many judgments":  {with(func(g *box.Game) { g.Judgments = late }), api.ErrMany},
		"a judgment of none":  {with(func(g *box.Game) { g.Judgments = rulings("3 0 hit 1 0") }), api.ErrUnknown},
		"one that does not":   {with(func(g *box.Game) { g.Judgments = rulings("0 0 hit 2 0") }), api.ErrJudge},
		"a wrong order":       {with(func(g *box.Game) { g.Judgments = rulings("1 1 wild 0 0", "0 0 hit 1 0") }), api.ErrOrder},
		"some that exclude":   {with(func(g *box.Game) { g.Judgments = rulings("0 0 hit 1 0", "0 0 life 0 6") }), api.ErrConflict},
		"too many, completed": {crowd(7), api.ErrMany},
	}
}

// crowd returns a game of 256 plays, in which all bases are occupied from play 3 on, with 762 judgments of errors, and so many of sacrifices. Their complete list has 256 more, a hit or a choice of each batter, and so just 1024 with 6 sacrifices.
func crowd(sacrifices int) box.Game {
	g := gameOf("X X 0-1b:1", "X X 1-2b:1 0-1b:1", "X X 2-3b:1 1-2b:1 0-1b:1", 253, "X X 3-4b:1 2-3b:1 1-2b:1 0-1b:1")
	for at := 1; at < api.MaxPlays; at++ {
		for from := min(at, 3); from > 0; from-- {
			g.Judgments = append(g.Judgments, api.Judgment{Play: at, From: from, Kind: "error", Base: from, Fielder: 1, Rule: 3})
		}
		if at <= sacrifices {
			g.Judgments = append(g.Judgments, api.Judgment{Play: at, Kind: "sacrifice", Rule: 9})
		}
	}
	return g
}

// wrongBoxes returns boxes that are none, with their errors. Each of them has as many errors as possible that come behind its own.
func wrongBoxes() map[string]struct {
	box box.Box
	err api.Errno
} {
	type row = struct {
		box box.Box
		err api.Errno
	}
	large := api.MaxNumber + 1
	bad := func(side int, player string, n int) box.Box {
		b := box.Box{Lines: lines("0 a turn 1"), Innings: make([][2]int, 31), Rest: [2]int{large, large}}
		l := box.Line{Side: side, Player: player}
		l.Counts[28] = n
		b.Lines = append(b.Lines, l, box.Line{Side: -7})
		return b
	}
	innings := func(n int, runs [2]int) box.Box {
		return box.Box{Innings: append(make([][2]int, n-1), runs), Rest: [2]int{0, -large}}
	}
	return map[string]row{
		"too many lines":        {box.Box{Lines: make([]box.Line, 161)}, api.ErrMany},
		"side 2":                {bad(2, "", large), api.ErrSide},
		"side -1":               {bad(-1, "", large), api.ErrSide},
		"no name":               {bad(0, "", large), api.ErrName},
		"a wrong name":          {bad(0, "a b", -large), api.ErrName},
		"a long name":           {bad(1, strings.Repeat("a", 25), large), api.ErrName},
		"a great count":         {bad(0, "a", large), api.ErrRange},
		"a small count":         {bad(0, "a", -large), api.ErrRange},
		"no count":              {bad(0, "a", 0), api.ErrZero},
		"no count, at the end":  {bad(1, "a", 0), api.ErrZero},
		"a line twice":          {bad(0, "a", 1), api.ErrOrder},
		"a wrong order":         {bad(0, "Z", 1), api.ErrOrder},
		"sides in wrong order":  {box.Box{Lines: lines("1 a turn 1", "0 b turn 1"), Innings: make([][2]int, 31)}, api.ErrOrder},
		"the line behind":       {bad(0, "b", 1), api.ErrSide},
		"too many innings":      {innings(31, [2]int{large, 0}), api.ErrMany},
		"great runs":            {innings(30, [2]int{large, 0}), api.ErrRange},
		"small runs":            {innings(1, [2]int{0, -large}), api.ErrRange},
		"a great rest":          {box.Box{Rest: [2]int{large, 0}}, api.ErrRange},
		"a small rest":          {box.Box{Rest: [2]int{0, -large}}, api.ErrRange},
		"a rest behind innings": {innings(3, [2]int{1, 1}), api.ErrRange},
	}
}

// The examples 1 to 3 of the document.
func TestExamplesOfBoxes(t *testing.T) {
	whole, e := box.Compute(example())
	want(t, "the error of Compute", e, api.OK)
	wantBox(t, "the box of G", whole, box.Box{
		Lines:   lines("0 a1 turn 1 ab 1 h 1 r 1", "0 a2 turn 1 ab 1 h 1 d 1 rbi 1", "1 b9 ha 2 ra 1 wp 1"),
		Innings: [][2]int{{1, 0}},
		Rest:    [2]int{1, 0},
	})
	side, n, e := box.Prove(whole)
	want(t, "the box of G balances", []any{side, n, e}, []any{0, 0, api.OK})
	one, _ := box.Part(example(), 0, 1)
	wantBox(t, "the first play", one, box.Box{Lines: lines("0 a1 turn 1 ab 1 h 1", "1 b9 ha 1"), Innings: [][2]int{{0, 0}}, Rest: [2]int{1, 0}})
	two, _ := box.Part(example(), 1, 3)
	wantBox(t, "the other two", two, box.Box{Lines: lines("0 a1 r 1", "0 a2 turn 1 ab 1 h 1 d 1 rbi 1", "1 b9 ha 1 ra 1 wp 1"), Innings: [][2]int{{1, 0}}})
	sum, _ := box.Merge(one, two)
	wantBox(t, "their sum", sum, whole)
	whole.Lines[0].Counts[0] = 2
	side, n, e = box.Prove(whole)
	want(t, "with another count of turns", []any{side, n, e}, []any{0, 1, api.ErrBalance})
}

// The examples 4 and 5 of the document.
func TestExamplesOfPitchers(t *testing.T) {
	p, e := box.Pitching(example())
	want(t, "the pitchers of G", []any{p, e}, []any{[]box.Pitcher{{Side: 1, Player: "b9", Runs: 1, Earned: 1}}, api.OK})
	l, e := box.Leads(example().Plays)
	want(t, "the leads of G", []any{l, e}, []any{[]int{0, 0, 0, 1}, api.OK})
	d, e := box.Decide(example())
	want(t, "G is not over", []any{d, e}, []any{box.Decision{}, api.ErrState})
	h := shutout()
	d, e = box.Decide(h)
	want(t, "H", []any{d, e}, []any{box.Decision{Win: "a9", Loss: "b9"}, api.OK})
	h.Changes = changes("52 0 9 c 1")
	d, e = box.Decide(h)
	want(t, "H with c", []any{d, e}, []any{box.Decision{Win: "a9", Loss: "b9", Save: "c"}, api.OK})
}
