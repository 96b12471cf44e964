package play_test

import (
	"math"
	"reflect"
	"strings"
	"testing"

	"dugout/api"
	"dugout/play"
)

// want reports a result that is not the expected one; it takes an empty list for nil where both are lists of numbers.
func want(t *testing.T, what string, got, wanted any) {
	t.Helper()
	if a, ok := got.([]int); ok && len(a) == 0 {
		if b, ok := wanted.([]int); ok && len(b) == 0 {
			return
		}
	}
	if !reflect.DeepEqual(got, wanted) {
		t.Errorf("%s: got %v, want %v", what, got, wanted)
	}
}

// parsed returns the play with a string that is known to be right.
func parsed(t *testing.T, s string) api.Play {
	t.Helper()
	p, _, e := play.Parse(s)
	if e != api.OK {
		t.Fatalf("Parse(%q): error %d", s, e)
	}
	return p
}

func safe(from, to int, how string, by ...int) api.Move {
	return api.Move{From: from, To: to, How: how, By: by}
}

func out(from, to int, how string, by ...int) api.Move {
	return api.Move{From: from, To: to, Out: true, How: how, By: by}
}

// wrongPlays returns plays that do not have their form, with their errors.
func wrongPlays() map[string]struct {
	play api.Play
	err  api.Errno
} {
	type row = struct {
		play api.Play
		err  api.Errno
	}
	return map[string]row{
		"25 pitches":               {api.Play{Pitches: strings.Repeat("F", 25)}, api.ErrMany},
		"25 bytes, none a pitch":   {api.Play{Pitches: strings.Repeat("é", 13)}, api.ErrMany},
		"no pitch":                 {api.Play{Pitches: "BQ"}, api.ErrPitch},
		"a small letter":           {api.Play{Pitches: "b"}, api.ErrPitch},
		"a blank in pitches":       {api.Play{Pitches: "B C"}, api.ErrPitch},
		"a dash for pitches":       {api.Play{Pitches: "-"}, api.ErrPitch},
		"no text at all":           {api.Play{Pitches: "\xff"}, api.ErrPitch},
		"a letter of two bytes":    {api.Play{Pitches: "é"}, api.ErrPitch},
		"the sign of wrong text":   {api.Play{Pitches: "�"}, api.ErrPitch},
		"X before the end":         {api.Play{Pitches: "XB"}, api.ErrPitch},
		"H before the end":         {api.Play{Pitches: "HX"}, api.ErrPitch},
		"X twice":                  {api.Play{Pitches: "XX"}, api.ErrPitch},
		"no event":                 {api.Play{Event: "Q"}, api.ErrKind},
		"a small event":            {api.Play{Event: "k"}, api.ErrKind},
		"two events":               {api.Play{Event: "KW"}, api.ErrKind},
		"a dash for an event":      {api.Play{Event: "-"}, api.ErrKind},
		"pitches before the event": {api.Play{Pitches: "Q", Event: "Q"}, api.ErrPitch},
		"the event before moves":   {api.Play{Event: "Q", Moves: make([]api.Move, 5)}, api.ErrKind},
		"5 moves":                  {api.Play{Moves: []api.Move{safe(3, 4, "s"), safe(2, 3, "s"), safe(1, 2, "s"), safe(0, 1, "b"), safe(9, 9, "q")}}, api.ErrMany},
		"ascending moves":          {api.Play{Moves: []api.Move{safe(1, 2, "s"), safe(2, 3, "s")}}, api.ErrOrder},
		"a runner twice":           {api.Play{Moves: []api.Move{safe(2, 3, "s"), safe(2, 3, "s")}}, api.ErrOrder},
		"the order, then a move":   {api.Play{Moves: []api.Move{safe(1, 2, "s"), safe(2, 3, "s"), safe(7, 1, "b")}}, api.ErrOrder},
		"a move, then the order":   {api.Play{Moves: []api.Move{safe(1, 2, "z"), safe(2, 3, "s")}}, api.ErrKind},
		"the move before order":    {api.Play{Moves: []api.Move{safe(1, 2, "s"), safe(2, 2, "s")}}, api.ErrMove},
		"a move that does not fit": {api.Play{Moves: []api.Move{safe(0, 1, "s")}}, api.ErrMove},
		"a place of no runner":     {api.Play{Moves: []api.Move{safe(4, 4, "b")}}, api.ErrRange},
		"an out by nobody":         {api.Play{Moves: []api.Move{out(0, 1, "c")}}, api.ErrTouch},
	}
}

// Every function that takes a play tells its error before all else.
func TestWrongPlays(t *testing.T) {
	for what, x := range wrongPlays() {
		want(t, what+", CheckPlay", play.CheckPlay(x.play), x.err)
		s, e := play.Print(x.play)
		want(t, what+", Print", s, "")
		want(t, what+", Print", e, x.err)
		s, e = play.PrintAll([]api.Play{{}, x.play})
		want(t, what+", PrintAll", s, "")
		want(t, what+", PrintAll", e, x.err)
		n, e := play.Outs(x.play)
		want(t, what+", Outs", n, 0)
		want(t, what+", Outs", e, x.err)
		n, e = play.Runs(x.play)
		want(t, what+", Runs", n, 0)
		want(t, what+", Runs", e, x.err)
		n, e = play.Advances(x.play)
		want(t, what+", Advances", n, 0)
		want(t, what+", Advances", e, x.err)
		m, e := play.MoveOf(x.play, -1)
		want(t, what+", MoveOf", m, api.Move{})
		want(t, what+", MoveOf", e, x.err)
		k, e := play.Touches(x.play)
		want(t, what+", Touches", k, [9]int{})
		want(t, what+", Touches", e, x.err)
		l, e := play.Putouts(x.play)
		want(t, what+", Putouts", l, []int(nil))
		want(t, what+", Putouts", e, x.err)
		l, e = play.Assists(x.play, 4)
		want(t, what+", Assists", l, []int(nil))
		want(t, what+", Assists", e, x.err)
	}
}

// extremes returns plays that are as far from their form as the types permit.
func extremes() []api.Play {
	numbers := []int{math.MinInt, -1, 0, 1, 3, 4, 5, math.MaxInt}
	texts := []string{"", "-", "X", "\x00\xff", "late", strings.Repeat("B", 5000)}
	var plays []api.Play
	for _, s := range texts {
		for _, n := range numbers {
			for _, m := range numbers {
				moves := []api.Move{{From: n, To: m, How: s, By: []int{m, n}}, {From: m, To: n, Out: true, How: "g", By: numbers}, {From: n, To: n, Out: true, How: "f"}}
				plays = append(plays, api.Play{Pitches: s, Event: s, Late: true, Moves: moves})
				plays = append(plays, api.Play{Moves: moves[:1]}, api.Play{Moves: moves[1:2]}, api.Play{Moves: moves[2:]})
			}
		}
	}
	return plays
}

func TestNothingPanics(t *testing.T) {
	numbers := []int{math.MinInt, math.MinInt + 1, -api.MaxNumber, -1, 0, 1, 9, api.MaxNumber, math.MaxInt}
	for _, p := range extremes() {
		play.CheckPlay(p)
		play.Print(p)
		play.PrintAll([]api.Play{p, p})
		play.Canonical(p)
		play.Equal(p, p)
		play.Outs(p)
		play.Runs(p)
		play.Advances(p)
		play.Touches(p)
		play.Putouts(p)
		play.IsName(p.Event)
		play.Parse(p.Pitches)
		play.ParseAll(p.Pitches)
		for _, m := range p.Moves {
			play.CheckMove(m)
			play.MoveOf(p, m.From)
			play.Assists(p, m.From)
			play.Count(m.From, m.To, p.Pitches)
		}
	}
	for _, a := range numbers {
		for _, b := range numbers {
			play.Draw(a, b)
			play.Rate(a, b)
			play.CheckRatio(api.Ratio{Num: a, Den: b})
			play.Compare(api.Ratio{Num: a, Den: b}, api.Ratio{Num: b, Den: a})
		}
	}
}
