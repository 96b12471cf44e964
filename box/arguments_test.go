package box_test

import (
	"math"
	"math/rand"
	"slices"
	"strings"
	"testing"

	"dugout/api"
	"dugout/box"
	"dugout/lineup"
)

// chaos draws arguments most of which are not well-formed.
type chaos struct {
	random *rand.Rand
}

func (c chaos) number() int {
	numbers := []int{0, 0, 0, 1, 1, 2, 3, 4, 9, 10, 255, 256, 257, 999999999, 1000000000, -1, -2, math.MaxInt, math.MinInt}
	return numbers[c.random.Intn(len(numbers))]
}

func (c chaos) name() string {
	names := []string{"", "a", "a1", "b9", "c", "\xff", "a b", strings.Repeat("a", 30)}
	return names[c.random.Intn(len(names))]
}

func (c chaos) one(rate int) bool {
	return c.random.Intn(rate) == 0
}

// list draws a short list.
func list[T any](c chaos, draw func() T) []T {
	l := make([]T, c.random.Intn(4))
	for i := range l {
		l[i] = draw()
	}
	return l
}

func (c chaos) play() api.Play {
	texts := []string{"", "X", "B", "CCC", "K", "b", "\xff"}
	text := func() string { return texts[c.random.Intn(len(texts))] }
	return api.Play{Pitches: text(), Event: text(), Late: c.one(2), Moves: list(c, func() api.Move {
		return api.Move{From: c.number(), To: c.number(), Out: c.one(2), How: text(), By: list(c, c.number)}
	})}
}

func (c chaos) judgment() api.Judgment {
	kinds := append([]string{"", "walk"}, rulingList...)
	return api.Judgment{Play: c.number(), From: c.number(), Kind: kinds[c.random.Intn(len(kinds))], Base: c.number(), Fielder: c.number(), Rule: c.number()}
}

func (c chaos) game() box.Game {
	games := []box.Game{example(), busy(), shutout(), {Teams: teams()}, {}}
	g := games[c.random.Intn(len(games))]
	if c.one(3) {
		g.Teams[c.random.Intn(2)].Batters[c.random.Intn(9)] = c.name()
	}
	if c.one(3) {
		g.Teams[c.random.Intn(2)].Positions[c.random.Intn(9)] = c.number()
	}
	if c.one(3) {
		g.Changes = list(c, func() lineup.Change {
			return lineup.Change{Side: c.number(), Play: c.number(), Slot: c.number(), Player: c.name(), Position: c.number()}
		})
	}
	if c.one(3) {
		g.Plays = append(slices.Clone(g.Plays), list(c, c.play)...)
	}
	if c.one(3) {
		g.Judgments = list(c, c.judgment)
	}
	return g
}

func (c chaos) box() box.Box {
	b := box.Box{Lines: list(c, func() box.Line {
		l := box.Line{Side: c.random.Intn(2), Player: c.name()}
		if c.one(4) {
			l.Side = c.number()
		}
		l.Counts[c.random.Intn(box.MaxKinds)] = c.number()
		return l
	})}
	if c.one(2) {
		b.Innings = list(c, func() [2]int { return [2]int{c.number(), c.number()} })
	}
	if c.one(2) {
		b.Rest = [2]int{c.number(), c.number()}
	}
	return b
}

func (c chaos) text() string {
	parts := []string{"innings", "innings 1:0\nrest 0 0\n", "innings\n", "rest", "rest 1 -1\n", "line", "line 0 a 1" + zeros(28) + "\n", "line 1 a 1" + zeros(28) + "\n", " ", "0", "-", ":", "\n", "\xff"}
	var text strings.Builder
	for range c.random.Intn(6) {
		text.WriteString(parts[c.random.Intn(len(parts))])
	}
	return text.String()
}

// TestNothingPanics expects every function to return, and nothing beside an error.
func TestNothingPanics(t *testing.T) {
	c := chaos{rand.New(rand.NewSource(8))}
	seen := map[api.Errno]int{}
	for range 2000 {
		g, b := c.game(), c.box()
		expect := func(what string, e api.Errno, isNothing bool) {
			t.Helper()
			seen[e]++
			if e != api.OK && !isNothing {
				t.Errorf("%s: a result beside the error %d", what, e)
			}
		}
		x, e := box.Compute(g)
		expect("Compute", e, isEmpty(x))
		want(t, "CheckGame and Compute agree", box.CheckGame(g), e)
		x, e = box.Part(g, c.number(), c.number())
		expect("Part", e, isEmpty(x))
		p, e := box.Pitching(g)
		expect("Pitching", e, len(p) == 0)
		n, e := box.Earned(g)
		expect("Earned", e, n == [2]int{})
		l, e := box.Leads(g.Plays)
		expect("Leads", e, len(l) == 0)
		d, e := box.Decide(g)
		expect("Decide", e, d == box.Decision{})
		x, e = box.Merge(b, c.box())
		expect("Merge", e, isEmpty(x))
		x, e = box.Minus(b, c.box())
		expect("Minus", e, isEmpty(x))
		side, at, e := box.Prove(b)
		expect("Prove", e, e == api.ErrBalance || side == 0 && at == 0)
		counts, e := box.Totals(b, c.number())
		expect("Totals", e, counts == [box.MaxKinds]int{})
		one, e := box.LineOf(b, c.number(), c.name())
		expect("LineOf", e, one == box.Line{})
		text, e := box.Print(b)
		expect("Print", e, text == "")
		want(t, "CheckBox and Print agree", box.CheckBox(b), e)
		x, at, e = box.Parse(c.text())
		expect("Parse", e, isEmpty(x))
		want(t, "an index of Parse without an error", e == api.OK && at != 0, false)
	}
	for _, e := range []api.Errno{api.OK, api.ErrRange, api.ErrSide, api.ErrName, api.ErrZero, api.ErrOrder, api.ErrBalance, api.ErrSyntax, api.ErrTorn, api.ErrUnknown, api.ErrState} {
		want(t, "an error was drawn", []any{e, seen[e] > 0}, []any{e, true})
	}
}

// roomy returns a game like the busy one, with room behind each of its lists.
func roomy() box.Game {
	g := busy()
	g.Changes = append(make([]lineup.Change, 0, 32), g.Changes...)
	g.Plays = append(make([]api.Play, 0, 32), g.Plays...)
	g.Judgments = append(make([]api.Judgment, 0, 32), g.Judgments...)
	return g
}

// TestArgumentsStay expects no argument to be changed, nor kept.
func TestArgumentsStay(t *testing.T) {
	g, over := roomy(), shutout()
	b, _ := box.Compute(g)
	b.Lines = append(make([]box.Line, 0, 32), b.Lines...)
	b.Innings = append(make([][2]int, 0, 32), b.Innings...)
	other, _ := box.Compute(over)
	text, _ := box.Print(b)
	call := func(g, over box.Game, b, other box.Box) []any {
		var results []any
		keep := func(x any, e api.Errno) { results = append(results, x, e) }
		x, e := box.Compute(g)
		keep(x, e)
		x, e = box.Part(g, 2, 14)
		keep(x, e)
		p, e := box.Pitching(g)
		keep(p, e)
		n, e := box.Earned(g)
		keep(n, e)
		l, e := box.Leads(g.Plays)
		keep(l, e)
		d, e := box.Decide(over)
		keep(d, e)
		x, e = box.Merge(b, other)
		keep(x, e)
		x, e = box.Merge(b, box.Box{})
		keep(x, e)
		x, e = box.Merge(box.Box{}, b)
		keep(x, e)
		x, e = box.Minus(other, b)
		keep(x, e)
		side, at, e := box.Prove(b)
		keep([2]int{side, at}, e)
		counts, e := box.Totals(b, 0)
		keep(counts, e)
		one, e := box.LineOf(b, 1, "c")
		keep(one, e)
		s, e := box.Print(b)
		keep(s, e)
		return results
	}
	before := call(g, over, b, other)
	fresh, _ := box.Compute(busy())
	want(t, "the game", g, busy())
	want(t, "what is behind the changes", g.Changes[len(g.Changes):32], make([]lineup.Change, 32-len(g.Changes)))
	want(t, "what is behind the plays", g.Plays[len(g.Plays):32], make([]api.Play, 32-len(g.Plays)))
	want(t, "what is behind the judgments", g.Judgments[len(g.Judgments):32], make([]api.Judgment, 32-len(g.Judgments)))
	wantBox(t, "the box", b, fresh)
	want(t, "what is behind the lines", b.Lines[len(b.Lines):32], make([]box.Line, 32-len(b.Lines)))
	want(t, "what is behind the innings", b.Innings[len(b.Innings):32], make([][2]int, 32-len(b.Innings)))
	fresher, _, _ := box.Parse(text)
	again := call(roomy(), shutout(), fresher, other)
	for at := range g.Plays {
		for i := range g.Plays[at].Moves {
			clear(g.Plays[at].Moves[i].By)
		}
		clear(g.Plays[at].Moves)
	}
	clear(g.Plays)
	clear(g.Changes)
	clear(g.Judgments)
	clear(b.Lines)
	clear(b.Innings)
	want(t, "results that are kept", before, again)
}

// TestResultsShareNothing expects that a result that is changed does not reach into another one.
func TestResultsShareNothing(t *testing.T) {
	a, _ := box.Compute(busy())
	b, _ := box.Compute(busy())
	sum, _ := box.Merge(a, box.Box{})
	less, _ := box.Minus(a, box.Box{})
	clear(sum.Lines)
	clear(sum.Innings)
	wantBox(t, "a difference", less, b)
	clear(less.Lines)
	clear(less.Innings)
	wantBox(t, "the box", a, b)
	text, _ := box.Print(a)
	one, _, _ := box.Parse(text)
	two, _, _ := box.Parse(text)
	clear(one.Lines)
	clear(one.Innings)
	wantBox(t, "what is parsed twice", two, b)
	l, _ := box.Leads(example().Plays)
	clear(l)
	l, _ = box.Leads(example().Plays)
	want(t, "Leads again", l, []int{0, 0, 0, 1})
}
