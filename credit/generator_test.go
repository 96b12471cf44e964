package credit_test

import (
	"math/rand"
	"slices"
	"strings"

	"dugout/api"
	"dugout/judge"
	"dugout/rule"
)

// generator draws games and judgments, always the same ones.
type generator struct {
	random *rand.Rand
}

func newGenerator(seed int64) *generator {
	return &generator{rand.New(rand.NewSource(seed))}
}

// one returns a word of a string.
func (g *generator) one(words string) string {
	l := strings.Split(words, " ")
	return l[g.random.Intn(len(l))]
}

// move draws a move by one of some ways; many of them do not have their form.
func (g *generator) move(from int, ways string) api.Move {
	how := g.one(ways)
	by := [][]int{{2}, {8, 6}, {6, 4, 6}, {6, 4, 3}, nil}[g.random.Intn(5)]
	to := []int{from + 1, from + 1, from + 2, from + 1 + g.random.Intn(4)}[g.random.Intn(4)]
	m := api.Move{From: from, To: min(4, to), How: how[:1], Out: len(how) > 1, By: by}
	if m.Out && g.random.Intn(3) == 0 {
		m.To = from
	}
	return m
}

// play draws a play; most of them break a rule. A way of an out has an x behind it.
func (g *generator) play(s rule.State) api.Play {
	heads := []struct{ pitches, event, batter, runners string }{
		{"B", "", "", "s p s p t gx nx"},
		{"", "", "", "k gx"},
		{"BBBB", "W", "a", "a a s p gx"},
		{"H", "H", "a", "a"},
		{"", "I", "a", "a"},
		{"CCS", "K", "kx p t p fx", "s p t gx"},
		{"S", "K", "kx p t p gx", "s p t gx"},
		{"X", "X", "b t b t o fx cx gx", "b t b t o fx gx dx"},
		{"X", "X", "b t b t o fx cx gx", "b t b t o fx gx dx"},
		{"X", "X", "fx fx cx", "fx fx b t"},
		{"X", "Y", "yx", "t b gx dx"},
		{"", "N", "nx", "s"},
	}
	head := heads[g.random.Intn(len(heads))]
	p := api.Play{Pitches: head.pitches, Event: head.event, Late: g.random.Intn(12) == 0}
	for from := 3; from > 0; from-- {
		if s.Bases[from-1] != 0 && g.random.Intn(3) > 0 {
			p.Moves = append(p.Moves, g.move(from, head.runners))
		}
	}
	if head.event != "" {
		p.Moves = append(p.Moves, g.move(0, head.batter))
	}
	return p
}

// game draws a game.
func (g *generator) game(plays int) []api.Play {
	var l []api.Play
	s := rule.Start()
	for len(l) < plays && !s.Over {
		p := g.play(s)
		if next, _, e := rule.Apply(s, p); e == api.OK {
			l, s = append(l, p), next
		}
	}
	return l
}

// fitting returns all judgments that fit the moves of a game.
func fitting(plays []api.Play) []api.Judgment {
	var l []api.Judgment
	for at, p := range plays {
		for _, m := range p.Moves {
			for i, kind := range rulingList {
				for base := range 5 {
					for _, fielder := range append([]int{0}, m.By...) {
						j := api.Judgment{Play: at, From: m.From, Kind: kind, Base: base, Fielder: fielder, Rule: i + 1}
						if isLikely(m, j) && !slices.Contains(l, j) && judge.Fits(plays, j) == api.OK {
							l = append(l, j)
						}
					}
				}
			}
		}
	}
	return l
}

// isLikely leaves out most of the judgments that do not fit, each of which costs a game that is replayed.
func isLikely(m api.Move, j api.Judgment) bool {
	hasBase, hasFielder := j.Kind == "hit" || j.Kind == "error", j.Kind == "life" || j.Kind == "error"
	return (!m.Out || j.Kind == "sacrifice") && hasBase == (j.Base > 0) && hasFielder == (j.Fielder > 0)
}

// course draws a game, all judgments that fit it, and a list of some of them.
func (g *generator) course(plays int) ([]api.Play, []api.Judgment, []api.Judgment) {
	game := g.game(plays)
	all := fitting(game)
	var l []api.Judgment
	for range g.random.Intn(30) {
		if len(all) > 0 {
			l, _ = judge.Set(game, l, all[g.random.Intn(len(all))])
		}
	}
	return game, all, l
}
