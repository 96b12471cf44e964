package legal_test

import (
	"math/rand"
	"slices"
	"strings"
	"testing"

	"dugout/api"
	"dugout/legal"
	"dugout/play"
	"dugout/rule"
)

// generator draws families and states, always the same ones.
type generator struct {
	random *rand.Rand
}

func newGenerator(seed int64) *generator {
	return &generator{rand.New(rand.NewSource(seed))}
}

// some returns some different words of a string, in any order, from least on.
func (g *generator) some(words string, least, most int) []string {
	l := strings.Split(words, " ")
	g.random.Shuffle(len(l), func(i, j int) { l[i], l[j] = l[j], l[i] })
	l = l[:least+g.random.Intn(most-least+1)]
	for i := range l {
		l[i] = strings.TrimPrefix(l[i], "-")
	}
	return l
}

// family draws a family: one by which something may happen, with some more of each.
func (g *generator) family() legal.Family {
	bases := []legal.Family{simple(), of("- C", "-", "s", "g"), of("BBBB B", "W -", "a", ""), of("CCC C", "K -", "p", "k"), of("X", "X Y", "t", "cd")}
	more := legal.Family{
		Pitches: g.some("X - B C F H BX BBBB CCC", 1, 2),
		Events:  g.some("X - W K H I N Y", 1, 2),
		Safe:    strings.Join(g.some("b a s p k t o", 0, 1), ""),
		Outs:    strings.Join(g.some("f g c d k n y", 0, 1), ""),
		By:      []int{9},
		Late:    g.random.Intn(4) == 0,
	}
	f, _ := legal.Join(bases[g.random.Intn(len(bases))], more)
	f.By = []int{1 + g.random.Intn(9)}
	return f
}

// state draws a state that is reached from the start, or from one of the samples.
func (g *generator) state(t *testing.T) rule.State {
	t.Helper()
	l := samples(t)
	s := l[g.random.Intn(len(l))]
	f := of("X B C", "X -", "b", "f")
	for range g.random.Intn(6) {
		_, states := permitted(s, f)
		if next := states[g.random.Intn(len(states))]; !next.Over {
			s = next
		}
	}
	return s
}

// small reports whether a family is small enough in a state to be listed many times.
func small(s rule.State, f legal.Family) bool {
	n, e := legal.Size(s, f)
	return e == api.OK && n <= 1000
}

func TestCandidatesArePlaysAndRefusals(t *testing.T) {
	g := newGenerator(1)
	listed := 0
	for range 300 {
		s, f := g.state(t), g.family()
		if !small(s, f) {
			continue
		}
		candidates, _ := legal.Candidates(s, f)
		plays, _ := legal.Plays(s, f)
		refusals, _ := legal.Refusals(s, f)
		listed += len(plays)
		n, tooLarge := len(plays), 0
		isListed := map[string]bool{}
		for _, text := range printed(t, plays) {
			isListed[text] = true
		}
		for _, r := range refusals {
			n += r.Plays
		}
		for _, p := range candidates {
			name, e := legal.Explain(s, p)
			if e == api.ErrLarge {
				tooLarge++
			}
			text, _ := play.Print(p)
			want(t, "a play is listed if no rule is broken", isListed[text], name == "" && e == api.OK)
		}
		want(t, "the plays and the refusals", n+tooLarge, len(candidates))
		if s.Score[s.Half] < rule.MaxScore-4 {
			want(t, "scores that are too large", tooLarge, 0)
		}
	}
	want(t, "enough plays were listed", listed > 500, true)
}

func TestPlaysAreAccepted(t *testing.T) {
	g := newGenerator(2)
	for range 200 {
		s, f := g.state(t), g.family()
		if !small(s, f) {
			continue
		}
		plays, _ := legal.Plays(s, f)
		seen := map[string]bool{}
		for _, text := range printed(t, plays) {
			want(t, "a play that is listed twice", seen[text], false)
			seen[text] = true
		}
		for _, p := range plays {
			_, _, e := rule.Apply(s, p)
			want(t, "a play that is listed", e, api.OK)
			at, e := legal.CheckPath(s, f, []api.Play{p})
			want(t, "a path of one play", []any{at, e}, []any{-1, api.OK})
		}
	}
}

func TestLargerFamiliesHaveAllPlays(t *testing.T) {
	g := newGenerator(3)
	listed := 0
	for range 300 {
		s, a, b := g.state(t), g.family(), g.family()
		b.By = a.By
		joined, e := legal.Join(a, b)
		if e != api.OK || !small(s, joined) {
			continue
		}
		plays, _ := legal.Plays(s, joined)
		inJoined := map[string]bool{}
		for _, text := range printed(t, plays) {
			inJoined[text] = true
		}
		for _, f := range []legal.Family{a, b} {
			plays, _ := legal.Plays(s, f)
			listed += len(plays)
			for _, text := range printed(t, plays) {
				want(t, "a play of a larger family", inJoined[text], true)
			}
		}
	}
	want(t, "enough plays were listed", listed > 500, true)
}

func TestStatesWithinReachAreStates(t *testing.T) {
	g := newGenerator(4)
	for range 60 {
		s, f := g.state(t), g.family()
		if !small(s, f) {
			continue
		}
		for plays := range 3 {
			l, e := legal.Reach(s, f, plays)
			if e != api.OK {
				want(t, "the error of Reach", e == api.ErrLimit || e == api.ErrMany, true)
				continue
			}
			want(t, "the first state", l[0], s)
			for i, x := range l {
				want(t, "a state within reach", rule.CheckState(x), api.OK)
				want(t, "each state once", slices.Index(l, x), i)
			}
			follows, _ := legal.Follows(s, f)
			for _, x := range follows {
				want(t, "the states of one play", slices.Contains(l, x), plays > 0 || x == s)
			}
		}
	}
}

// goals returns goals that are easy to meet.
func goals() []legal.Goal {
	return []legal.Goal{{}, {Outs: 1}, {Runs: 1}, {Turns: 1}, {Outs: 2}, {Runs: 1, Outs: 1}, {Turns: 2, Runs: 2}, {Half: true}, {Half: true, Runs: 1}}
}

// shortest looks for a shortest way by its definition: it tries all paths in order, the short ones first.
func shortest(s rule.State, f legal.Family, g legal.Goal, plays int) ([]string, bool) {
	for n := range plays + 1 {
		if way, found := wayOf(s, s, f, g, n); found {
			return way, true
		}
	}
	return nil, false
}

// wayOf returns the first path of n plays from a state that leads to a goal.
func wayOf(from, s rule.State, f legal.Family, g legal.Goal, n int) ([]string, bool) {
	if n == 0 {
		meets, _ := legal.Meets(from, s, g)
		return nil, meets
	}
	if s.Over {
		return nil, false
	}
	plays, states := permitted(s, f)
	for i, next := range states {
		if way, found := wayOf(from, next, f, g, n-1); found {
			text, _ := play.Print(plays[i])
			return append([]string{text}, way...), true
		}
	}
	return nil, false
}

func TestShortestByItsDefinition(t *testing.T) {
	for _, s := range samples(t) {
		for _, f := range []legal.Family{simple(), of("X", "X", "", "fg"), of("X", "X", "tb", "c"), of("BBBB CCC -", "K W -", "as", "k")} {
			for _, g := range goals() {
				if n, _ := legal.Size(s, f); n > 500 {
					continue
				}
				for plays := range 3 {
					way, e := legal.Shortest(s, f, g, plays)
					wanted, found := shortest(s, f, g, plays)
					want(t, "the error of Shortest", e, map[bool]api.Errno{false: api.ErrNone}[found])
					sameStrings(t, "the shortest way", printed(t, way), wanted)
				}
			}
		}
	}
}

func TestShortestWaysAreShortest(t *testing.T) {
	g := newGenerator(5)
	for range 100 {
		s, f := g.state(t), g.family()
		if !small(s, f) {
			continue
		}
		goal := goals()[g.random.Intn(len(goals()))]
		way, e := legal.Shortest(s, f, goal, 2)
		if e != api.OK {
			continue
		}
		at, e := legal.CheckPath(s, f, way)
		want(t, "the way is a path", []any{at, e}, []any{-1, api.OK})
		end := s
		for _, p := range way {
			end, _, _ = rule.Apply(end, p)
		}
		meets, _ := legal.Meets(s, end, goal)
		want(t, "the way meets its goal", meets, true)
		if len(way) > 0 {
			_, e := legal.Shortest(s, f, goal, len(way)-1)
			want(t, "a way with fewer plays", e, api.ErrNone)
		}
	}
}

func TestPathsLeadToAllStatesWithinReach(t *testing.T) {
	for _, s := range samples(t) {
		for _, f := range smallFamilies() {
			l, _ := legal.Reach(s, f, 3)
			numbers, _ := legal.Paths(s, f, 3)
			sum := 0
			for _, n := range numbers {
				sum += n
			}
			want(t, "at least as many paths as states", sum >= len(l), true)
		}
	}
}
