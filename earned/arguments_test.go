package earned_test

import (
	"math"
	"math/rand"
	"slices"
	"testing"

	"dugout/api"
	"dugout/earned"
)

// chaos draws arguments most of which are not well-formed.
type chaos struct {
	random *rand.Rand
}

func (c chaos) number() int {
	numbers := []int{0, 0, 0, 1, 1, 2, 2, 3, 4, 5, 6, 9, 255, 256, 257, 999999999, 1000000000, -1, -2, math.MaxInt, math.MinInt}
	return numbers[c.random.Intn(len(numbers))]
}

// list returns a list of up to three elements that are drawn.
func list[T any](c chaos, draw func() T) []T {
	l := make([]T, c.random.Intn(4))
	for i := range l {
		l[i] = draw()
	}
	return l
}

func (c chaos) judgment() api.Judgment {
	kinds := append(slices.Clone(rulingList), "", "walk", "\xff")
	at := c.random.Intn(len(kinds))
	j := api.Judgment{Play: c.number(), From: c.number(), Kind: kinds[at], Base: c.number(), Fielder: c.number(), Rule: c.number()}
	if c.random.Intn(4) > 0 {
		j.Rule = at + 1
	}
	return j
}

func (c chaos) play() api.Play {
	texts := []string{"", "X", "B", "CCC", "K", "b", "\xff"}
	text := func() string { return texts[c.random.Intn(len(texts))] }
	move := func() api.Move {
		return api.Move{From: c.number(), To: c.number(), Out: c.random.Intn(2) == 0, How: text(), By: list(c, c.number)}
	}
	return api.Play{Pitches: text(), Event: text(), Late: c.random.Intn(2) == 0, Moves: list(c, move)}
}

// half draws a half, most often one that is well-formed, but for an argument of it.
func (c chaos) half(t *testing.T) earned.Half {
	h := busy(t)
	switch c.random.Intn(5) {
	case 0:
		h.Plays = list(c, c.play)
	case 1:
		h.Judgments = list(c, c.judgment)
	case 2:
		h.Relief = list(c, c.number)
	}
	return h
}

// busy returns a half with runs, misplays, runners who lag behind, a choice, and two pitchers.
func busy(t *testing.T) earned.Half {
	t.Helper()
	return inning(t, one+away+"X X 2-3b 0-1b:4;X X 3-4b 1x2f:64 0-1b;B - 1-2p:2;X X 2-4b:8 0-2b;"+gone,
		"0 0 life 0 6;1 1 error 1 2;1 1 passed 0 0;3 0 choice 0 0;4 1 passed 0 0;5 2 error 3 8", 3)
}

// TestNothingPanics expects every function to return, and nothing beside an error.
func TestNothingPanics(t *testing.T) {
	want(t, "the half that is busy", earned.CheckHalf(busy(t)), api.OK)
	c := chaos{rand.New(rand.NewSource(7))}
	extra := func() earned.Extra { return earned.Extra{c.number(), c.number(), c.number()} }
	out := func() earned.Out {
		return earned.Out{Play: c.number(), Runner: c.number(), Fact: c.random.Intn(2) == 0}
	}
	for range 3000 {
		h, from, n := c.half(t), c.number(), c.number()
		expect := func(what string, e api.Errno, isNothing bool) {
			t.Helper()
			if e != api.OK && !isNothing {
				t.Errorf("%s: a result beside the error %d", what, e)
			}
		}
		halves, e := earned.Split(h.Plays, h.Judgments, h.Relief)
		expect("Split", e, len(halves) == 0)
		runners, e := earned.Runners(h)
		expect("Runners", e, len(runners) == 0)
		bases, e := earned.Bases(h)
		expect("Bases", e, len(bases) == 0)
		places, e := earned.Places(h, from)
		expect("Places", e, len(places) == 0)
		outs, e := earned.Outs(h, from)
		expect("Outs", e, len(outs) == 0)
		third, e := earned.Third(h, from)
		expect("Third", e, third == 0)
		l, e := earned.Runs(h)
		expect("Runs", e, len(l) == 0)
		l, e = earned.Earned(h, from)
		expect("Earned", e, len(l) == 0)
		l, e = earned.Unearned(h, from)
		expect("Unearned", e, len(l) == 0)
		cert, e := earned.Certify(h, from, n)
		expect("Certify", e, cert.Runner == 0 && !cert.Earned && cert.Play == 0 && len(cert.Outs) == 0)
		earned.CheckCertificate(h, from, earned.Certificate{Runner: n, Earned: c.random.Intn(2) == 0, Play: c.number(), Outs: list(c, out)})
		doubts, e := earned.Doubts(h, from)
		expect("Doubts", e, len(doubts) == 0)
		l, e = earned.Reckon(h, from, list(c, extra))
		expect("Reckon", e, len(l) == 0)
		k, e := earned.Pitcher(h, n)
		expect("Pitcher", e, k == 0)
		l, e = earned.Charges(h)
		expect("Charges", e, len(l) == 0)
		lines, e := earned.Lines(h)
		expect("Lines", e, len(lines) == 0)
		team, e := earned.Team(h)
		expect("Team", e, team == earned.Line{})
		average, e := earned.Average(from, n)
		expect("Average", e, average == api.Ratio{})
	}
}

// TestArgumentsStay expects no argument to be changed, nor kept, and results to share nothing.
func TestArgumentsStay(t *testing.T) {
	h := busy(t)
	h.Judgments = append(make([]api.Judgment, 0, 16), h.Judgments...)
	h.Relief = append(make([]int, 0, 16), h.Relief...)
	h.Plays = append(make([]api.Play, 0, 16), h.Plays...)
	extras := append(make([]earned.Extra, 0, 16), earned.Extra{5, 3, 3})
	c, e := earned.Certify(h, 0, 1)
	want(t, "the error of Certify", e, api.OK)
	want(t, "the outs of the certificate", len(c.Outs) > 1, true)
	call := func(h earned.Half) []any {
		var results []any
		keep := func(x any, e api.Errno) { results = append(results, x, e) }
		halves, e := earned.Split(h.Plays, h.Judgments, h.Relief)
		keep(halves, e)
		runners, e := earned.Runners(h)
		keep(runners, e)
		bases, e := earned.Bases(h)
		keep(bases, e)
		for from := range len(h.Plays) + 1 {
			places, e := earned.Places(h, from)
			keep(places, e)
			outs, e := earned.Outs(h, from)
			keep(outs, e)
			l, e := earned.Earned(h, from)
			keep(l, e)
			l, e = earned.Unearned(h, from)
			keep(l, e)
			cert, e := earned.Certify(h, from, 1)
			keep(cert, e)
			keep(nil, earned.CheckCertificate(h, from, c))
			doubts, e := earned.Doubts(h, from)
			keep(doubts, e)
			l, e = earned.Reckon(h, from, extras)
			keep(l, e)
		}
		l, e := earned.Runs(h)
		keep(l, e)
		l, e = earned.Charges(h)
		keep(l, e)
		lines, e := earned.Lines(h)
		keep(lines, e)
		return results
	}
	before := call(h)
	fresh := busy(t)
	want(t, "the plays", h.Plays, fresh.Plays)
	want(t, "the judgments", h.Judgments, fresh.Judgments)
	want(t, "the relief", h.Relief, fresh.Relief)
	want(t, "the extras", extras, []earned.Extra{{5, 3, 3}})
	want(t, "what is behind the plays", h.Plays[len(h.Plays):16], make([]api.Play, 16-len(h.Plays)))
	want(t, "what is behind the judgments", h.Judgments[len(h.Judgments):16], make([]api.Judgment, 16-len(h.Judgments)))
	want(t, "what is behind the relief", h.Relief[1:16], make([]int, 15))
	want(t, "what is behind the extras", extras[1:16], make([]earned.Extra, 15))
	again := call(fresh)
	for at := range h.Plays {
		for i := range h.Plays[at].Moves {
			clear(h.Plays[at].Moves[i].By)
		}
		clear(h.Plays[at].Moves)
	}
	clear(h.Plays)
	clear(h.Judgments)
	clear(h.Relief)
	clear(extras)
	clear(c.Outs)
	want(t, "results that are kept", before, again)
}

// TestResultsShareNothing expects that a result that is changed, or longer, does not reach into another part of it.
func TestResultsShareNothing(t *testing.T) {
	h := busy(t)
	spoil := func(l []int) {
		for i := range l {
			l[i] = 99
		}
		_ = append(l, 99)
	}
	places, _ := earned.Places(h, 0)
	again, _ := earned.Places(h, 0)
	for i := range places {
		spoil(places[i])
		want(t, "the places behind some that are changed", places[i+1:], again[i+1:])
	}
	text := one + gone + gone + gone
	halves, _ := earned.Split(acts(t, text+text), rulings("0 0 life 0 6;4 0 life 0 6"), []int{1, 5})
	fresh, _ := earned.Split(acts(t, text+text), rulings("0 0 life 0 6;4 0 life 0 6"), []int{1, 5})
	for at := range halves[0].Plays {
		for i := range halves[0].Plays[at].Moves {
			spoil(halves[0].Plays[at].Moves[i].By)
		}
	}
	spoil(halves[0].Relief)
	halves[0].Plays = append(halves[0].Plays, api.Play{})
	halves[0].Judgments = append(halves[0].Judgments, api.Judgment{})
	want(t, "the second half", halves[1], fresh[1])
}
