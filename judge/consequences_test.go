package judge_test

import (
	"cmp"
	"math/rand"
	"slices"
	"strings"
	"testing"

	"dugout/api"
	"dugout/judge"
	"dugout/rule"
)

// generator draws games and judgments, always the same ones.
type generator struct {
	random *rand.Rand
}

func newGenerator(seed int64) *generator {
	return &generator{rand.New(rand.NewSource(seed))}
}

// one returns a word of a string.
func (g *generator) one(words string) string {
	l := strings.Split(words, " ")
	return l[g.random.Intn(len(l))]
}

// move draws a move by one of some ways; many of them do not have their form.
func (g *generator) move(from int, ways string) api.Move {
	how := g.one(ways)
	by := [][]int{{2}, {8, 6}, {6, 4, 6}, nil}[g.random.Intn(4)]
	return api.Move{From: from, To: min(4, from+1+g.random.Intn(2)), How: how[:1], Out: len(how) > 1, By: by}
}

// play draws a play; most of them break a rule. A way of an out has an x behind it.
func (g *generator) play(s rule.State) api.Play {
	heads := []struct{ pitches, event, batter, runners string }{
		{"B", "", "", "s p s p t gx k"},
		{"C", "", "", "s p s p t gx"},
		{"BBBB", "W", "a", "a a s p"},
		{"CCS", "K", "kx p t p", "s p t gx"},
		{"S", "K", "kx p t p", "s p t gx"},
		{"X", "X", "b t b t o fx cx gx", "b t b t o fx gx"},
		{"X", "X", "b t b t o fx cx gx", "b t b t o fx gx"},
		{"X", "Y", "yx", "t b"},
		{"", "N", "nx", "s"},
	}
	head := heads[g.random.Intn(len(heads))]
	p := api.Play{Pitches: head.pitches, Event: head.event}
	for from := 3; from > 0; from-- {
		if s.Bases[from-1] != 0 && g.random.Intn(3) > 0 {
			p.Moves = append(p.Moves, g.move(from, head.runners))
		}
	}
	if head.event != "" {
		p.Moves = append(p.Moves, g.move(0, head.batter))
	}
	return p
}

// game draws a game.
func (g *generator) game(plays int) []api.Play {
	var l []api.Play
	s := rule.Start()
	for len(l) < plays && !s.Over {
		p := g.play(s)
		if next, _, e := rule.Apply(s, p); e == api.OK {
			l, s = append(l, p), next
		}
	}
	return l
}

// fitting returns all judgments that fit the moves of a game.
func fitting(plays []api.Play) []api.Judgment {
	var l []api.Judgment
	for at, p := range plays {
		for _, m := range p.Moves {
			for i, kind := range kindList {
				for base := range 5 {
					for _, fielder := range append([]int{0}, m.By...) {
						j := api.Judgment{Play: at, From: m.From, Kind: kind, Base: base, Fielder: fielder, Rule: i + 1}
						if isLikely(m, j) && !slices.Contains(l, j) && judge.Fits(plays, j) == api.OK {
							l = append(l, j)
						}
					}
				}
			}
		}
	}
	return l
}

// isLikely leaves out most of the judgments that do not fit, each of which costs a game that is replayed.
func isLikely(m api.Move, j api.Judgment) bool {
	hasBase, hasFielder := j.Kind == "hit" || j.Kind == "error", j.Kind == "life" || j.Kind == "error"
	return (!m.Out || j.Kind == "sacrifice") && hasBase == (j.Base > 0) && hasFielder == (j.Fielder > 0)
}

// course draws a game, all judgments that fit it, and some acts.
func (g *generator) course() ([]api.Play, []api.Judgment, []judge.Act) {
	plays := g.game(4 + g.random.Intn(16))
	all := fitting(plays)
	var list []judge.Act
	var l []api.Judgment
	for range g.random.Intn(40) {
		if len(l) > 0 && g.random.Intn(5) == 0 {
			j := l[g.random.Intn(len(l))]
			l, _ = judge.Reverse(plays, l, j)
			list = append(list, judge.Act{Judgment: j})
		} else if len(all) > 0 {
			j := all[g.random.Intn(len(all))]
			l, _ = judge.Set(plays, l, j)
			list = append(list, judge.Act{Set: true, Judgment: j})
		}
	}
	return plays, all, list
}

// order compares judgments by their order.
func order(a, b api.Judgment) int {
	return cmp.Or(cmp.Compare(a.Play, b.Play), cmp.Compare(b.From, a.From), cmp.Compare(a.Rule, b.Rule))
}

// kindsOf returns the kinds of the judgments of a list about a move.
func kindsOf(l []api.Judgment, at, from int) []string {
	var kinds []string
	for _, j := range l {
		if j.Play == at && j.From == from {
			kinds = append(kinds, j.Kind)
		}
	}
	return kinds
}

// hasAny reports whether one of some kinds is in a list.
func hasAny(kinds []string, some ...string) bool {
	return slices.ContainsFunc(kinds, func(kind string) bool { return slices.Contains(some, kind) })
}

// suppliedByDefinition returns what a list lacks for a move, or nothing.
func suppliedByDefinition(p api.Play, m api.Move, l []api.Judgment, at int) []api.Judgment {
	own := kindsOf(l, at, m.From)
	j := api.Judgment{Play: at, From: m.From}
	switch {
	case m.Out:
		return nil
	case m.From == 0 && p.Event == "X" && (m.How == "b" || m.How == "t"):
		if hasAny(own, "hit", "life", "choice") {
			return nil
		}
		j.Kind, j.Rule, j.Base = "hit", 1, m.To
		for _, x := range l {
			if x.Play == at && x.From == 0 && x.Kind == "error" {
				j.Base = x.Base
			}
		}
		if hasAny(own, "sacrifice") {
			j.Kind, j.Rule, j.Base = "choice", 4, 0
		}
	case m.How == "p":
		if hasAny(own, "wild", "passed") {
			return nil
		}
		j.Kind, j.Rule = "wild", 5
		for from := range 4 {
			if hasAny(kindsOf(l, at, from), "passed") {
				j.Kind, j.Rule = "passed", 6
			}
		}
	case m.How == "s":
		if hasAny(own, "steal", "idle", "life") {
			return nil
		}
		j.Kind, j.Rule = "steal", 7
	default:
		return nil
	}
	return []api.Judgment{j}
}

// cleanByDefinition returns the clean move of a move, with the complete list.
func cleanByDefinition(m api.Move, complete []api.Judgment, at int) judge.Clean {
	kinds := kindsOf(complete, at, m.From)
	if m.Out || hasAny(kinds, "life") || m.From == 0 && hasAny(kinds, "passed") {
		return judge.Clean{From: m.From, Out: true}
	}
	for _, j := range complete {
		if j.Play == at && j.From == m.From && j.Kind == "error" {
			return judge.Clean{From: m.From, To: j.Base}
		}
	}
	if hasAny(kinds, "passed") {
		return judge.Clean{From: m.From, To: m.From}
	}
	return judge.Clean{From: m.From, To: m.To}
}

func TestCompleteByItsDefinition(t *testing.T) {
	g := newGenerator(1)
	seen := map[string]bool{}
	for range 150 {
		plays, _, list := g.course()
		l, at, e := judge.Replay(plays, list)
		want(t, "the error of Replay", []any{at, e}, []any{-1, api.OK})
		var missing []api.Judgment
		for at, p := range plays {
			for _, m := range p.Moves {
				missing = append(missing, suppliedByDefinition(p, m, l, at)...)
			}
		}
		got, _ := judge.Missing(plays, l)
		same(t, "what is missing", got, missing)
		complete, _ := judge.Complete(plays, l)
		all := append(slices.Clone(l), missing...)
		slices.SortFunc(all, order)
		same(t, "the complete list", complete, all)
		at, e = judge.CheckJudgments(plays, complete)
		want(t, "the complete list is one", []any{at, e}, []any{-1, api.OK})
		again, _ := judge.Missing(plays, complete)
		want(t, "nothing is missing in a complete list", len(again), 0)
		twice, _ := judge.Complete(plays, complete)
		same(t, "the complete list of a complete list", twice, complete)
		for _, j := range complete {
			seen[j.Kind] = true
		}
	}
	want(t, "all kinds were drawn", len(seen), len(kindList))
}

func TestEachMoveThatAsksIsAnswered(t *testing.T) {
	g := newGenerator(2)
	for range 100 {
		plays, _, list := g.course()
		l, _, _ := judge.Replay(plays, list)
		complete, _ := judge.Complete(plays, l)
		for at := range plays {
			moves, _ := judge.Asks(plays, at)
			missing, _ := judge.Missing(plays, nil)
			want(t, "as many answers as moves that ask", len(judge.Of(missing, at)), len(moves))
			for _, m := range moves {
				n := 0
				for _, kind := range kindsOf(complete, at, m.From) {
					if slices.Contains([]string{"hit", "life", "choice", "wild", "passed", "steal", "idle"}, kind) {
						n++
					}
				}
				want(t, "the answers for a move that asks", n, 1)
			}
		}
	}
}

func TestCleansByTheirDefinition(t *testing.T) {
	g := newGenerator(3)
	for range 100 {
		plays, _, list := g.course()
		l, _, _ := judge.Replay(plays, list)
		complete, _ := judge.Complete(plays, l)
		misplays, _ := judge.Misplays(plays, l)
		for at, p := range plays {
			var cleans, moves []judge.Clean
			for _, m := range p.Moves {
				cleans = append(cleans, cleanByDefinition(m, complete, at))
				c := judge.Clean{From: m.From, To: m.To, Out: m.Out}
				if m.Out {
					c.To = 0
				}
				moves = append(moves, c)
			}
			got, e := judge.Cleans(plays, l, at)
			want(t, "the error of Cleans", e, api.OK)
			want(t, "the clean moves", got, cleans)
			if len(judge.Of(misplays, at)) == 0 {
				want(t, "the clean moves without misplays", got, moves)
			}
		}
	}
}

func TestErrorsAreMisplays(t *testing.T) {
	g := newGenerator(4)
	for range 100 {
		plays, _, list := g.course()
		l, _, _ := judge.Replay(plays, list)
		states, _, _, _ := rule.Replay(plays)
		misplays, _ := judge.Misplays(plays, l)
		var errors [2][10]int
		for _, j := range misplays {
			if j.Kind != "passed" {
				side := 1 - states[j.Play].Half
				errors[side][j.Fielder]++
				errors[side][0]++
			}
		}
		for side := range errors {
			got, e := judge.Errors(plays, l, side)
			want(t, "the errors of a side", []any{got, e}, []any{errors[side], api.OK})
		}
	}
}

func TestJudgmentsThatAreSet(t *testing.T) {
	g := newGenerator(5)
	restored := 0
	for range 100 {
		plays, all, list := g.course()
		l, _, _ := judge.Replay(plays, list)
		for _, j := range all {
			before := slices.Clone(l)
			set, e := judge.Set(plays, l, j)
			want(t, "the error of Set", e, api.OK)
			at, e := judge.CheckJudgments(plays, set)
			want(t, "the list after Set", []any{at, e}, []any{-1, api.OK})
			same(t, "the list before", l, before)
			var expected []api.Judgment
			for _, x := range l {
				if x != j && !excludeByDefinition(x, j) {
					expected = append(expected, x)
				}
			}
			nothingTaken := len(expected) == len(l)
			same(t, "the others after Set", without(set, j), expected)
			want(t, "what is set is there", slices.Contains(set, j), true)
			reversed, e := judge.Reverse(plays, set, j)
			want(t, "the error of Reverse", e, api.OK)
			same(t, "the list after Reverse", reversed, expected)
			if nothingTaken {
				same(t, "the list is as it was", reversed, l)
				restored++
			}
			unchangedElsewhere(t, plays, l, set, j.Play)
		}
	}
	want(t, "enough lists were restored", restored > 500, true)
}

// without returns a list without a judgment.
func without(l []api.Judgment, j api.Judgment) []api.Judgment {
	return slices.DeleteFunc(slices.Clone(l), func(x api.Judgment) bool { return x == j })
}

// unchangedElsewhere expects nothing to have changed but about one play.
func unchangedElsewhere(t *testing.T, plays []api.Play, a, b []api.Judgment, at int) {
	t.Helper()
	elsewhere := func(l []int) []int { return slices.DeleteFunc(l, func(play int) bool { return play == at }) }
	want(t, "what changed elsewhere", elsewhere(judge.Differences(a, b)), []int(nil))
	left, _ := judge.Complete(plays, a)
	right, _ := judge.Complete(plays, b)
	want(t, "what is complete elsewhere", elsewhere(judge.Differences(left, right)), []int(nil))
}

func TestActsOneByOne(t *testing.T) {
	g := newGenerator(6)
	for range 60 {
		plays, _, list := g.course()
		var l []api.Judgment
		for i, a := range list {
			got, at, e := judge.Replay(plays, list[:i])
			want(t, "the error of Replay", []any{at, e}, []any{-1, api.OK})
			same(t, "the list after some acts", got, l)
			if a.Set {
				l, _ = judge.Set(plays, l, a.Judgment)
			} else {
				l, _ = judge.Reverse(plays, l, a.Judgment)
			}
		}
		wrong := append(slices.Clone(list), judge.Act{Judgment: api.Judgment{Play: -1}})
		_, at, e := judge.Replay(plays, wrong)
		want(t, "a wrong act at the end", []any{at, e}, []any{len(list), api.ErrUnknown})
	}
}

func TestDifferencesByTheirDefinition(t *testing.T) {
	g := newGenerator(7)
	for range 100 {
		plays, _, list := g.course()
		a, _, _ := judge.Replay(plays, list)
		b, _, _ := judge.Replay(plays, list[:len(list)/2])
		var expected []int
		for at := range plays {
			if !slices.Equal(judge.Of(a, at), judge.Of(b, at)) {
				expected = append(expected, at)
			}
		}
		want(t, "the plays about which two lists differ", judge.Differences(a, b), expected)
	}
}

func TestWhatIsPrintedIsParsed(t *testing.T) {
	g := newGenerator(8)
	for range 100 {
		_, all, _ := g.course()
		text, e := judge.Print(all)
		want(t, "the error of Print", e, api.OK)
		l, at, e := judge.Parse(text)
		want(t, "the error of Parse", []any{at, e}, []any{0, api.OK})
		same(t, "what is parsed", l, all)
		again, _ := judge.Print(l)
		want(t, "what is printed again", again, text)
	}
}
