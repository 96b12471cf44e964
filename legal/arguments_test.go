package legal_test

import (
	"math"
	"math/rand"
	"testing"

	"dugout/api"
	"dugout/legal"
	"dugout/rule"
)

// chaos draws arguments most of which are not well-formed.
type chaos struct {
	random *rand.Rand
}

func (c chaos) number() int {
	numbers := []int{0, 1, 2, 3, 4, 5, 8, 9, 10, 30, 31, 99, 100, 101, 9999, -1, -2, math.MaxInt, math.MinInt}
	return numbers[c.random.Intn(len(numbers))]
}

func (c chaos) text() string {
	texts := []string{"", "X", "B", "CCC", "b", "bas", "fck", "bb", "W", "K", "Z", "\xff", "\u00e9", "0", " ", "XX"}
	return texts[c.random.Intn(len(texts))]
}

func (c chaos) texts() []string {
	l := make([]string, c.random.Intn(11))
	for i := range l {
		l[i] = c.text()
	}
	return l
}

func (c chaos) numbers() []int {
	l := make([]int, c.random.Intn(11))
	for i := range l {
		l[i] = c.number()
	}
	return l
}

func (c chaos) flag() bool {
	return c.random.Intn(2) == 0
}

func (c chaos) state() rule.State {
	if c.random.Intn(3) == 0 {
		return rule.Start()
	}
	return rule.State{
		Inning: c.number(), Half: c.number(), Outs: c.number(), Balls: c.number(), Strikes: c.number(),
		Bases: [3]int{c.number(), c.number(), c.number()}, Next: [2]int{c.number(), c.number()},
		Score: [2]int{c.number(), c.number()}, Over: c.flag(),
	}
}

func (c chaos) family() legal.Family {
	if c.random.Intn(3) == 0 {
		return simple()
	}
	return legal.Family{Pitches: c.texts(), Events: c.texts(), Safe: c.text(), Outs: c.text(), By: c.numbers(), Late: c.flag()}
}

func (c chaos) plays() []api.Play {
	l := make([]api.Play, c.random.Intn(20))
	for i := range l {
		l[i] = api.Play{Pitches: c.text(), Event: c.text(), Late: c.flag()}
		for range c.random.Intn(6) {
			l[i].Moves = append(l[i].Moves, api.Move{From: c.number(), To: c.number(), Out: c.flag(), How: c.text(), By: c.numbers()})
		}
	}
	return l
}

func (c chaos) goal() legal.Goal {
	return legal.Goal{Outs: c.number(), Runs: c.number(), Turns: c.number(), Half: c.flag()}
}

// TestNothingPanics expects every function to return, and nothing beside an error.
func TestNothingPanics(t *testing.T) {
	c := chaos{rand.New(rand.NewSource(6))}
	for range 6000 {
		s, x, f, g, goal, plays, n := c.state(), c.state(), c.family(), c.family(), c.goal(), c.plays(), c.number()
		legal.CheckFamily(f)
		legal.CheckGoal(goal)
		expect := func(what string, e api.Errno, isNothing bool) {
			t.Helper()
			if e != api.OK && !isNothing {
				t.Errorf("%s: a result beside the error %d", what, e)
			}
		}
		joined, e := legal.Join(f, g)
		expect("Join", e, joined.Pitches == nil && joined.Events == nil && joined.Safe == "" && joined.Outs == "" && joined.By == nil && !joined.Late)
		size, e := legal.Size(s, f)
		expect("Size", e, size == 0)
		candidates, e := legal.Candidates(s, f)
		expect("Candidates", e, len(candidates) == 0)
		accepted, e := legal.Plays(s, f)
		expect("Plays", e, len(accepted) == 0)
		refusals, e := legal.Refusals(s, f)
		expect("Refusals", e, len(refusals) == 0)
		for _, p := range plays {
			name, e := legal.Explain(s, p)
			expect("Explain", e, name == "")
		}
		follows, e := legal.Follows(s, f)
		expect("Follows", e, len(follows) == 0)
		reach, e := legal.Reach(s, f, n)
		expect("Reach", e, len(reach) == 0)
		paths, e := legal.Paths(s, f, n)
		expect("Paths", e, len(paths) == 0)
		meets, e := legal.Meets(s, x, goal)
		expect("Meets", e, !meets)
		way, e := legal.Shortest(s, f, goal, n)
		expect("Shortest", e, len(way) == 0)
		at, e := legal.CheckPath(s, f, plays)
		want(t, "the index of CheckPath", at >= -1 && at < max(len(plays), 1), true)
		want(t, "an index without an error", e == api.OK && at != -1, false)
	}
}

// TestArgumentsStay expects no argument to be changed, nor kept.
func TestArgumentsStay(t *testing.T) {
	f := late(of("X B -", "X W -", "bs", "fg"))
	l := acts(t, "X X 0-1b", "- - 1-2s", "X X 0x1f:63")
	call := func() []any {
		var results []any
		keep := func(x any, e api.Errno) { results = append(results, x, e) }
		joined, e := legal.Join(f, simple())
		keep(joined, e)
		candidates, e := legal.Candidates(rule.Start(), f)
		keep(candidates, e)
		accepted, e := legal.Plays(rule.Start(), f)
		keep(accepted, e)
		refusals, e := legal.Refusals(rule.Start(), f)
		keep(refusals, e)
		reach, e := legal.Reach(rule.Start(), f, 2)
		keep(reach, e)
		paths, e := legal.Paths(rule.Start(), f, 2)
		keep(paths, e)
		way, e := legal.Shortest(rule.Start(), f, legal.Goal{Half: true}, 3)
		keep(way, e)
		at, e := legal.CheckPath(rule.Start(), f, l)
		keep(at, e)
		return results
	}
	before := call()
	want(t, "the family", f, late(of("X B -", "X W -", "bs", "fg")))
	want(t, "the plays", printed(t, l), []string{"X X 0-1b", "- - 1-2s", "X X 0x1f:63"})
	again := call()
	f.Pitches[0], f.Events[0], f.By[0] = "H", "H", 1
	if len(before) != len(again) {
		t.Fatalf("got %d results, want %d", len(again), len(before))
	}
	for i := range before {
		want(t, "a result that is kept", before[i], again[i])
	}
}
