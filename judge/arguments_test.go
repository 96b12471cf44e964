package judge_test

import (
	"math"
	"math/rand"
	"slices"
	"strings"
	"testing"

	"dugout/api"
	"dugout/judge"
)

// chaos draws arguments most of which are not well-formed.
type chaos struct {
	random *rand.Rand
}

func (c chaos) number() int {
	numbers := []int{0, 0, 1, 1, 2, 2, 3, 4, 5, 8, 9, 10, 999999999, 1000000000, -1, -2, math.MaxInt, math.MinInt}
	return numbers[c.random.Intn(len(numbers))]
}

func (c chaos) kind() string {
	kinds := append(slices.Clone(kindList), "", "walk", "\xff", "hit ")
	return kinds[c.random.Intn(len(kinds))]
}

func (c chaos) judgment() api.Judgment {
	j := api.Judgment{Play: c.number(), From: c.number(), Kind: c.kind(), Base: c.number(), Fielder: c.number(), Rule: c.number()}
	if n, e := judge.Rule(j.Kind); e == api.OK && c.random.Intn(4) > 0 {
		j.Rule = n
	}
	return j
}

func (c chaos) judgments() []api.Judgment {
	l := make([]api.Judgment, c.random.Intn(4))
	for i := range l {
		l[i] = c.judgment()
	}
	return l
}

func (c chaos) plays(t *testing.T) []api.Play {
	if c.random.Intn(3) > 0 {
		return twoHalves(t)
	}
	l := make([]api.Play, c.random.Intn(4))
	texts := []string{"", "X", "B", "CCC", "K", "b", "\xff"}
	text := func() string { return texts[c.random.Intn(len(texts))] }
	for i := range l {
		l[i] = api.Play{Pitches: text(), Event: text(), Late: c.random.Intn(2) == 0}
		for range c.random.Intn(6) {
			l[i].Moves = append(l[i].Moves, api.Move{From: c.number(), To: c.number(), Out: c.random.Intn(2) == 0, How: text(), By: []int{c.number()}})
		}
	}
	return l
}

func (c chaos) acts() []judge.Act {
	l := make([]judge.Act, c.random.Intn(4))
	for i := range l {
		l[i] = judge.Act{Set: c.random.Intn(2) == 0, Judgment: c.judgment()}
	}
	return l
}

func (c chaos) text() string {
	parts := []string{"0", " ", " ", "hit", "walk", "\n", "4", "-1", "\xff", "0 0 hit 1 0\n", "1 1 error 1 6\n"}
	var text strings.Builder
	for range c.random.Intn(12) {
		text.WriteString(parts[c.random.Intn(len(parts))])
	}
	return text.String()
}

// TestNothingPanics expects every function to return, and nothing beside an error.
func TestNothingPanics(t *testing.T) {
	c := chaos{rand.New(rand.NewSource(6))}
	for range 8000 {
		plays, l, j, n := c.plays(t), c.judgments(), c.judgment(), c.number()
		expect := func(what string, e api.Errno, isNothing bool) {
			t.Helper()
			if e != api.OK && !isNothing {
				t.Errorf("%s: a result beside the error %d", what, e)
			}
		}
		judge.Fits(plays, j)
		if judge.Excludes(j, c.judgment()) && judge.Excludes(j, j) {
			t.Errorf("%v excludes itself", j)
		}
		judge.Of(l, n)
		judge.Differences(l, c.judgments())
		number, e := judge.Rule(c.kind())
		expect("Rule", e, number == 0)
		at, e := judge.CheckJudgments(plays, l)
		want(t, "the index of CheckJudgments", at >= -1 && at < max(len(l), 1), true)
		want(t, "an index without an error", e == api.OK && at != -1, false)
		moves, e := judge.Asks(plays, n)
		expect("Asks", e, len(moves) == 0)
		got, e := judge.Missing(plays, l)
		expect("Missing", e, len(got) == 0)
		got, e = judge.Complete(plays, l)
		expect("Complete", e, len(got) == 0)
		got, e = judge.Set(plays, l, j)
		expect("Set", e, len(got) == 0)
		got, e = judge.Reverse(plays, l, j)
		expect("Reverse", e, len(got) == 0)
		got, at, e = judge.Replay(plays, c.acts())
		expect("Replay", e, len(got) == 0)
		want(t, "an index of Replay without an error", e == api.OK && at != -1, false)
		cleans, e := judge.Cleans(plays, l, n)
		expect("Cleans", e, len(cleans) == 0)
		got, e = judge.Misplays(plays, l)
		expect("Misplays", e, len(got) == 0)
		errors, e := judge.Errors(plays, l, n)
		expect("Errors", e, errors == [10]int{})
		text, e := judge.Print(l)
		expect("Print", e, text == "")
		got, at, e = judge.Parse(c.text())
		expect("Parse", e, len(got) == 0)
		want(t, "an index of Parse without an error", e == api.OK && at != 0, false)
	}
}

// TestArgumentsStay expects no argument to be changed, nor kept.
func TestArgumentsStay(t *testing.T) {
	plays := twoHalves(t)
	l := make([]api.Judgment, 0, 16)
	l = append(l, rulings("0 0 life 0 6", "1 1 passed 0 0", "4 2 error 3 9", "7 0 life 0 4")...)
	list := []judge.Act{{Set: true, Judgment: l[0]}, {Set: true, Judgment: l[1]}, {Judgment: l[0]}}
	call := func() []any {
		var results []any
		keep := func(x any, e api.Errno) { results = append(results, x, e) }
		for at := range plays {
			moves, e := judge.Asks(plays, at)
			keep(moves, e)
			cleans, e := judge.Cleans(plays, l, at)
			keep(cleans, e)
		}
		for _, f := range []func([]api.Play, []api.Judgment) ([]api.Judgment, api.Errno){judge.Missing, judge.Complete, judge.Misplays} {
			got, e := f(plays, l)
			keep(got, e)
		}
		for _, f := range []func([]api.Play, []api.Judgment, api.Judgment) ([]api.Judgment, api.Errno){judge.Set, judge.Reverse} {
			for _, j := range append(slices.Clone(l), ruling("0 0 hit 1 0"), ruling("9 0 sacrifice 0 0")) {
				got, e := f(plays, l, j)
				keep(got, e)
			}
		}
		got, _, e := judge.Replay(plays, list)
		keep(got, e)
		keep(judge.Of(l, 1), api.OK)
		keep(judge.Differences(l, l[:2]), api.OK)
		return results
	}
	before := call()
	want(t, "the plays", plays, twoHalves(t))
	same(t, "the judgments", l, rulings("0 0 life 0 6", "1 1 passed 0 0", "4 2 error 3 9", "7 0 life 0 4"))
	same(t, "what is behind the judgments", l[4:16], make([]api.Judgment, 12))
	again := call()
	for at := range plays {
		for i := range plays[at].Moves {
			for k := range plays[at].Moves[i].By {
				plays[at].Moves[i].By[k] = 1
			}
			plays[at].Moves[i].To = 9
		}
	}
	for at := range l {
		l[at] = api.Judgment{}
	}
	for i := range list {
		list[i] = judge.Act{}
	}
	want(t, "results that are kept", before, again)
}
