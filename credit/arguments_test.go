package credit_test

import (
	"math"
	"math/rand"
	"slices"
	"strings"
	"testing"

	"dugout/api"
	"dugout/credit"
	"dugout/judge"
)

// chaos draws arguments most of which are not well-formed.
type chaos struct {
	random *rand.Rand
}

func (c chaos) number() int {
	numbers := []int{0, 0, 0, 1, 1, 2, 2, 3, 4, 5, 8, 9, 10, 255, 256, 999999999, 1000000000, -1, -2, math.MaxInt, math.MinInt}
	return numbers[c.random.Intn(len(numbers))]
}

func (c chaos) kind(list []string) string {
	kinds := append(slices.Clone(list), "", "walk", "\xff", "h ")
	return kinds[c.random.Intn(len(kinds))]
}

func (c chaos) judgment() api.Judgment {
	j := api.Judgment{Play: c.number(), From: c.number(), Kind: c.kind(rulingList), Base: c.number(), Fielder: c.number(), Rule: c.number()}
	if n, e := judge.Rule(j.Kind); e == api.OK && c.random.Intn(4) > 0 {
		j.Rule = n
	}
	return j
}

func (c chaos) judgments() []api.Judgment {
	l := make([]api.Judgment, c.random.Intn(4))
	for i := range l {
		l[i] = c.judgment()
	}
	return l
}

func (c chaos) plays(t *testing.T) []api.Play {
	if c.random.Intn(3) > 0 {
		return innings(t)
	}
	l := make([]api.Play, c.random.Intn(4))
	texts := []string{"", "X", "B", "CCC", "K", "b", "\xff"}
	text := func() string { return texts[c.random.Intn(len(texts))] }
	for i := range l {
		l[i] = api.Play{Pitches: text(), Event: text(), Late: c.random.Intn(2) == 0}
		for range c.random.Intn(6) {
			l[i].Moves = append(l[i].Moves, api.Move{From: c.number(), To: c.number(), Out: c.random.Intn(2) == 0, How: text(), By: []int{c.number()}})
		}
	}
	return l
}

func (c chaos) credits() []credit.Credit {
	l := make([]credit.Credit, c.random.Intn(4))
	for i := range l {
		l[i] = credit.Credit{Play: c.number(), Side: c.number(), Kind: c.kind(kindList), Slot: c.number(), Position: c.number(), N: c.number()}
	}
	return l
}

func (c chaos) totals() []credit.Total {
	l := make([]credit.Total, c.random.Intn(4))
	for i := range l {
		l[i] = credit.Total{Side: c.number(), Kind: c.kind(kindList), Slot: c.number(), Position: c.number(), N: c.number()}
	}
	return l
}

func (c chaos) text() string {
	parts := []string{"0", " ", " ", "h", "walk", "\n", "4", "-1", "\xff", "0 h 1 0 1\n", "1 po 0 6 -2\n"}
	var text strings.Builder
	for range c.random.Intn(12) {
		text.WriteString(parts[c.random.Intn(len(parts))])
	}
	return text.String()
}

// innings returns a game in which both sides bat, with a double play, a steal, a run, and pitches that got away.
func innings(t *testing.T) []api.Play {
	t.Helper()
	return acts(t, strings.Split("X X 0-1b:6;C - 1-2p;X X 2-4b:82 0-2t:82;C - 2-3s:25;BBBB W 0-1a;X X 3-4b:6 1x2f:64 0x1f:643;"+gone+"X X 0-2b:9;X X 2-4b:97 0-2t:97", ";")...)
}

// TestNothingPanics expects every function to return, and nothing beside an error.
func TestNothingPanics(t *testing.T) {
	c := chaos{rand.New(rand.NewSource(6))}
	for range 6000 {
		plays, l, j, n, s := c.plays(t), c.judgments(), c.judgment(), c.number(), c.totals()
		expect := func(what string, e api.Errno, isNothing bool) {
			t.Helper()
			if e != api.OK && !isNothing {
				t.Errorf("%s: a result beside the error %d", what, e)
			}
		}
		given, e := credit.Credits(plays, l, n)
		expect("Credits", e, len(given) == 0)
		given, e = credit.All(plays, l)
		expect("All", e, len(given) == 0)
		sums, e := credit.Sum(c.credits())
		expect("Sum", e, len(sums) == 0)
		sums, e = credit.Plus(s, c.totals())
		expect("Plus", e, len(sums) == 0)
		sums, e = credit.Minus(s, c.totals())
		expect("Minus", e, len(sums) == 0)
		k, e := credit.Of(s, c.number(), c.kind(kindList), n)
		expect("Of", e, k == 0)
		k, e = credit.Team(s, n, c.kind(kindList))
		expect("Team", e, k == 0)
		k, e = credit.Bases(s, c.number(), n)
		expect("Bases", e, k == 0)
		changed, e := credit.Changed(plays, l, c.judgments())
		expect("Changed", e, len(changed) == 0)
		sums, e = credit.Effect(plays, l, j)
		expect("Effect", e, len(sums) == 0)
		given, e = credit.Rests(plays, l, j)
		expect("Rests", e, len(given) == 0)
		positions, e := credit.Double(plays, n)
		expect("Double", e, len(positions) == 0)
		ways, e := credit.Ways(plays)
		expect("Ways", e, len(ways) == 0)
		text, e := credit.Print(s)
		expect("Print", e, text == "")
		sums, at, e := credit.Parse(c.text())
		expect("Parse", e, len(sums) == 0)
		want(t, "an index of Parse without an error", e == api.OK && at != 0, false)
		want(t, "CheckTotals and Print agree", credit.CheckTotals(s) == api.OK, text != "" || len(s) == 0)
	}
}

// TestArgumentsStay expects no argument to be changed, nor kept, and results to share nothing.
func TestArgumentsStay(t *testing.T) {
	plays := innings(t)
	texts := []string{"0 0 life 0 6", "1 1 passed 0 0", "2 0 error 1 8", "8 2 error 3 9"}
	l := append(make([]api.Judgment, 0, 16), rulings(texts...)...)
	given := append(make([]credit.Credit, 0, 16), gifts("3 0 h 4 0 1", "2 1 po 0 2 1", "7 0 h 4 0 1")...)
	sums := append(make([]credit.Total, 0, 16), totals("0 h 4 0 2", "0 h 5 0 1", "1 po 0 2 1")...)
	call := func() []any {
		var results []any
		keep := func(x any, e api.Errno) { results = append(results, x, e) }
		for at := range plays {
			x, e := credit.Credits(plays, l, at)
			keep(x, e)
			f, e := credit.Double(plays, at)
			keep(f, e)
		}
		x, e := credit.All(plays, l)
		keep(x, e)
		s, e := credit.Sum(given)
		keep(s, e)
		s, e = credit.Plus(sums, sums[:2])
		keep(s, e)
		s, e = credit.Minus(sums[1:], sums[:2])
		keep(s, e)
		changed, e := credit.Changed(plays, l, l[:2])
		keep(changed, e)
		s, e = credit.Effect(plays, l, ruling("0 0 hit 1 0"))
		keep(s, e)
		x, e = credit.Rests(plays, l, l[0])
		keep(x, e)
		w, e := credit.Ways(plays)
		keep(w, e)
		text, e := credit.Print(sums)
		keep(text, e)
		return results
	}
	before := call()
	want(t, "the plays", plays, innings(t))
	want(t, "the judgments", l, rulings(texts...))
	want(t, "what is behind the judgments", l[4:16], make([]api.Judgment, 12))
	want(t, "the credits", given, gifts("3 0 h 4 0 1", "2 1 po 0 2 1", "7 0 h 4 0 1"))
	want(t, "what is behind the credits", given[3:16], make([]credit.Credit, 13))
	want(t, "the totals", sums, totals("0 h 4 0 2", "0 h 5 0 1", "1 po 0 2 1"))
	want(t, "what is behind the totals", sums[3:16], make([]credit.Total, 13))
	again := call()
	for at := range plays {
		for i := range plays[at].Moves {
			for k := range plays[at].Moves[i].By {
				plays[at].Moves[i].By[k] = 1
			}
			plays[at].Moves[i] = api.Move{}
		}
		plays[at] = api.Play{}
	}
	clear(l)
	clear(given)
	clear(sums)
	want(t, "results that are kept", before, again)
}

// TestStepsShareNothing expects that a way that is longer does not reach into another one.
func TestStepsShareNothing(t *testing.T) {
	ways, _ := credit.Ways(innings(t))
	again, _ := credit.Ways(innings(t))
	for i := range ways {
		ways[i].Steps = append(ways[i].Steps, credit.Step{Play: 99})
		for k := range ways[i].Steps {
			ways[i].Steps[k].Play = 99
		}
		want(t, "the ways behind one that is changed", ways[i+1:], again[i+1:])
	}
}
