package box_test

import (
	"strings"
	"testing"

	"dugout/api"
	"dugout/box"
	"dugout/rule"
)

// contest returns a game of T with so many home runs in each half, in front of three strikeouts if the game goes on. A half that is `.` has none.
func contest(t *testing.T, halves string) box.Game {
	t.Helper()
	g := gameOf()
	isOver := func() bool {
		s, _, _, e := rule.Final(g.Plays)
		want(t, "the error of rule.Final", e, api.OK)
		return s.Over
	}
	for _, runs := range strings.ReplaceAll(strings.ReplaceAll(halves, " ", ""), ".", "0") {
		for range runs - '0' {
			g.Plays = append(g.Plays, acts(homer)...)
		}
		if !isOver() {
			g.Plays = append(g.Plays, acts(3, strikeout)...)
		}
	}
	return g
}

func TestLeads(t *testing.T) {
	l, e := box.Leads(nil)
	want(t, "Leads without plays", []any{l, e}, []any{[]int{0}, api.OK})
	l, e = box.Leads(acts(single, homer, 3, strikeout, homer, homer))
	want(t, "Leads of no game", []any{len(l), e}, []any{0, api.ErrRule})
	l, e = box.Leads(acts(homer, single, "X X 1-4b 0-4b", 3, strikeout, 4, homer, 3, strikeout, homer))
	want(t, "Leads", []any{l, e}, []any{[]int{0, 1, 1, 3, 3, 3, 3, 2, 1, 0, -1, -1, -1, -1, 0}, api.OK})
	for what, x := range wrongGames() {
		if _, _, _, e := rule.Replay(x.game.Plays); e == api.OK {
			continue
		}
		l, e := box.Leads(x.game.Plays)
		_, _, _, err := rule.Replay(x.game.Plays)
		want(t, "Leads: "+what, []any{len(l), e}, []any{0, err})
	}
}

func TestDecide(t *testing.T) {
	for what, row := range map[string]struct {
		halves  string
		changes []string
		want    box.Decision
	}{
		"visitors lead from the first play on":   {"1. .. .. .. .. .. .. .. ..", nil, box.Decision{Win: "a9", Loss: "b9"}},
		"the winner comes in before he fields":   {"1. .. .. .. .. .. .. .. ..", []string{"4 0 9 c 1"}, box.Decision{Win: "c", Loss: "b9"}},
		"the winner comes in before the batters": {"1. .. .. .. .. .. .. .. ..", []string{"2 0 9 c 1"}, box.Decision{Win: "c", Loss: "b9"}},
		"the first one behind it alone":          {"1. .. .. .. .. .. .. .. ..", []string{"5 0 9 c 1"}, box.Decision{Win: "a9", Loss: "b9", Save: "c"}},
		"the loser comes in before the play":     {".. 1. .. .. .. .. .. .. ..", []string{"6 1 9 c 1"}, box.Decision{Win: "a9", Loss: "c", Play: 6}},
		"the loser comes in behind it":           {".. 1. .. .. .. .. .. .. ..", []string{"7 1 9 c 1"}, box.Decision{Win: "a9", Loss: "b9", Play: 6}},
		"the winner leaves before the play":      {".. 1. .. .. .. .. .. .. ..", []string{"6 0 9 c 1"}, box.Decision{Win: "a9", Loss: "b9", Save: "c", Play: 6}},
		"the winner is the last one":             {".. 1. .. .. .. .. .. .. ..", []string{"5 0 9 c 1"}, box.Decision{Win: "c", Loss: "b9", Play: 6}},
		"the home side leads from its half on":   {".1 .. .. .. .. .. .. .. .", nil, box.Decision{Win: "b9", Loss: "a9", Play: 3}},
		"the home side, with a save":             {".1 .. .. .. .. .. .. .. .", []string{"3 1 9 c 1"}, box.Decision{Win: "b9", Loss: "a9", Save: "c", Play: 3}},
		"the home side, and two more":            {".1 .. .. .. .. .. .. .. .", []string{"3 0 9 d 1", "3 1 9 c 1", "7 1 9 e 1"}, box.Decision{Win: "b9", Loss: "d", Save: "e", Play: 3}},
		"a lead that is lost":                    {"1. .1 1. .. .. .. .. .. ..", []string{"14 0 9 c 1"}, box.Decision{Win: "a9", Loss: "b9", Save: "c", Play: 14}},
		"a lead that is lost by another one":     {"1. .1 1. .. .. .. .. .. ..", []string{"12 0 9 c 1"}, box.Decision{Win: "c", Loss: "b9", Play: 14}},
		"a lead that changes":                    {"1. .2 2. .. .. .. .. .. ..", nil, box.Decision{Win: "a9", Loss: "b9", Play: 16}},
		"a lead that is even, then more":         {"3. .3 .. .. .. .. .. .. 3.", []string{"52 1 9 c 1"}, box.Decision{Win: "a9", Loss: "c", Play: 54}},
		"the last play decides":                  {".. .. .. .. .. .. .. .. .1", nil, box.Decision{Win: "b9", Loss: "a9", Play: 51}},
		"the last play, with a relief":           {".. .. .. .. .. .. .. .. .1", []string{"50 1 9 c 1", "51 0 9 d 1"}, box.Decision{Win: "c", Loss: "d", Play: 51}},
		"the last half decides, from behind":     {"1. .. .. .. .. .. .. .. .2", nil, box.Decision{Win: "b9", Loss: "a9", Play: 53}},
		"eleven innings":                         {".. .. .. .. .. .. .. .. .. 1 1 2 .", nil, box.Decision{Win: "a9", Loss: "b9", Play: 62}},
	} {
		g := contest(t, row.halves)
		g.Changes = changes(row.changes...)
		d, e := box.Decide(g)
		want(t, "Decide: "+what, []any{d, e}, []any{row.want, api.OK})
	}
}

// A save takes a lead of at most three runs, or at least nine outs.
func TestSaves(t *testing.T) {
	for what, row := range map[string]struct {
		halves  string
		changes []string
		save    string
	}{
		"three runs, three outs":             {"3. .. .. .. .. .. .. .. ..", []string{"54 0 9 c 1"}, "c"},
		"three runs, one out":                {"3. .. .. .. .. .. .. .. ..", []string{"56 0 9 c 1"}, "c"},
		"four runs, three outs":              {"4. .. .. .. .. .. .. .. ..", []string{"55 0 9 c 1"}, ""},
		"four runs, nine outs":               {"4. .. .. .. .. .. .. .. ..", []string{"43 0 9 c 1"}, "c"},
		"four runs, eight outs":              {"4. .. .. .. .. .. .. .. ..", []string{"44 0 9 c 1"}, ""},
		"four runs, ten outs":                {"4. .. .. .. .. .. .. .. ..", []string{"39 0 9 c 1"}, "c"},
		"nine runs, all outs but one":        {"9. .. .. .. .. .. .. .. ..", []string{"13 0 9 c 1"}, "c"},
		"four runs, then one is lost":        {"4. .. .. .. .. .. .. .. .1", []string{"56 0 9 c 1"}, "c"},
		"four runs, one is lost by c":        {"4. .. .. .. .. .. .. .. .1", []string{"55 0 9 c 1"}, ""},
		"three runs, then more":              {"3. .. .. .. .. .. .. .. 5.", []string{"50 0 9 c 1"}, "c"},
		"three runs, then more, at the bat":  {"3. .. .. .. .. .. .. .. 5.", []string{"51 0 9 c 1"}, ""},
		"nobody comes in":                    {"3. .. .. .. .. .. .. .. ..", nil, ""},
		"c comes in behind his last half":    {".3 .. .. .. .. .. .. .. .", []string{"54 1 9 c 1"}, ""},
		"c comes in at the last play":        {".3 .. .. .. .. .. .. .. .", []string{"53 1 9 c 1"}, "c"},
		"d comes in behind c":                {"3. .. .. .. .. .. .. .. ..", []string{"43 0 9 c 1", "55 0 9 d 1"}, "d"},
		"d comes in behind c with four":      {"4. .. .. .. .. .. .. .. ..", []string{"43 0 9 c 1", "55 0 9 d 1"}, ""},
		"a8 pitches in between":              {"4. .. .. .. .. .. .. .. ..", []string{"31 0 9 c 1", "49 0 8 a8 1", "49 0 9 c 9", "55 0 8 a8 9", "55 0 9 c 1"}, ""},
		"a8 pitches while his side bats":     {"4. .. .. .. .. .. .. .. ..", []string{"31 0 9 c 1", "46 0 8 a8 1", "46 0 9 c 9", "48 0 8 a8 9", "48 0 9 c 1"}, "c"},
		"the winner comes back":              {"4. .. .. .. .. .. .. .. ..", []string{"49 0 8 a8 1", "49 0 9 a9 9", "55 0 8 a8 9", "55 0 9 a9 1"}, ""},
		"the winner comes back with one run": {"1. .. .. .. .. .. .. .. ..", []string{"49 0 8 a8 1", "49 0 9 a9 9", "52 0 8 a8 9", "52 0 9 a9 1"}, ""},
	} {
		g := contest(t, row.halves)
		g.Changes = changes(row.changes...)
		d, e := box.Decide(g)
		want(t, "the error of Decide: "+what, e, api.OK)
		want(t, "the save: "+what, d.Save, row.save)
	}
}

// Double plays are two outs of a stretch.
func TestOutsOfASave(t *testing.T) {
	g := contest(t, "4. .. .. .. .. .. ..")
	g.Plays = append(g.Plays, acts(3, strikeout, single, "X X 1x2f:64 0x1f:643", 7, strikeout)...)
	g.Changes = changes("49 0 9 c 1")
	d, e := box.Decide(g)
	want(t, "a double play, and four outs more", []any{d.Save, e}, []any{"", api.OK})
	g.Plays = g.Plays[:43]
	g.Plays = append(g.Plays, acts(single, "X X 1x2f:64 0x1f:643", 13, strikeout)...)
	g.Changes = changes("43 0 9 c 1")
	d, e = box.Decide(g)
	want(t, "a double play, and seven outs more", []any{d.Save, e}, []any{"c", api.OK})
	g.Changes = changes("45 0 9 c 1")
	d, e = box.Decide(g)
	want(t, "seven outs behind a double play", []any{d.Save, e}, []any{"", api.OK})
}

// A play may decide and end its half: the first play behind it is not the last one before it.
func TestDecisionThatEndsAHalf(t *testing.T) {
	g := gameOf(8, strikeout, "X X 0-3b:8", "X X 3-4t 0x2g:84", 45, strikeout)
	g.Changes = changes("10 0 9 c 1")
	d, e := box.Decide(g)
	want(t, "Decide", []any{d, e}, []any{box.Decision{Win: "a9", Loss: "b9", Save: "c", Play: 9}, api.OK})
	g.Changes = changes("5 0 9 c 1", "9 1 9 d 1", "10 0 9 e 1", "54 0 9 f 1")
	d, e = box.Decide(g)
	want(t, "Decide with more pitchers", []any{d, e}, []any{box.Decision{Win: "c", Loss: "d", Save: "f", Play: 9}, api.OK})
}

func TestNoDecision(t *testing.T) {
	for what, row := range map[string]struct {
		game box.Game
		err  api.Errno
	}{
		"no plays":                    {box.Game{Teams: teams()}, api.ErrState},
		"a game that goes on":         {gameOf(homer, 53, strikeout), api.ErrState},
		"a game that is even":         {gameOf(54, strikeout), api.ErrState},
		"29 innings, and all but one": {gameOf(179, strikeout), api.ErrState},
		"30 innings":                  {gameOf(180, strikeout), api.ErrNone},
		"30 innings with runs":        {gameOf(homer, 3, strikeout, homer, 177, strikeout), api.ErrNone},
	} {
		d, e := box.Decide(row.game)
		want(t, "Decide: "+what, []any{d, e}, []any{box.Decision{}, row.err})
	}
	for what, row := range map[string]struct {
		game box.Game
		want box.Decision
	}{
		"a run of the visitors in the 30th inning":  {gameOf(174, strikeout, homer, 6, strikeout), box.Decision{Win: "a9", Loss: "b9", Play: 174}},
		"a run of the home side in the 30th inning": {gameOf(177, strikeout, homer), box.Decision{Win: "b9", Loss: "a9", Play: 177}},
	} {
		d, e := box.Decide(row.game)
		want(t, "Decide: "+what, []any{d, e}, []any{row.want, api.OK})
	}
}
