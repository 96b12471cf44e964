package earned_test

import (
	"math/rand"
	"slices"
	"strings"

	"dugout/api"
	"dugout/earned"
	"dugout/judge"
	"dugout/rule"
)

// generator draws halves, always the same ones.
type generator struct {
	random *rand.Rand
}

func newGenerator(seed int64) *generator {
	return &generator{rand.New(rand.NewSource(seed))}
}

// one returns a word of a string.
func (g *generator) one(text string) string {
	l := strings.Split(text, " ")
	return l[g.random.Intn(len(l))]
}

// move draws a move by one of some ways; many of them do not have their form. A way of an out has an x behind it.
func (g *generator) move(from int, ways string) api.Move {
	how := g.one(ways)
	by := [][]int{{2}, {8, 6}, {6, 4, 6}, {6, 4, 3}, {5}}[g.random.Intn(5)]
	to := []int{from + 1, from + 1, from + 2, from + 1 + g.random.Intn(4)}[g.random.Intn(4)]
	m := api.Move{From: from, To: min(4, to), How: how[:1], Out: len(how) > 1, By: by}
	if m.Out && g.random.Intn(3) == 0 {
		m.To = from
	}
	return m
}

// play draws a play; most of them break a rule.
func (g *generator) play(s rule.State) api.Play {
	heads := []struct{ pitches, event, batter, runners string }{
		{"B", "", "", "s p s p t gx"},
		{"B", "", "", "p"},
		{"B", "", "", "p p s"},
		{"", "", "", "k gx"},
		{"BBBB", "W", "a", "a a s p"},
		{"H", "H", "a", "a"},
		{"CCS", "K", "kx p t p fx", "s p t gx"},
		{"X", "X", "b t b t o", "b t b t o b"},
		{"X", "X", "b t b t o", "b t b t o b"},
		{"X", "X", "b t b t o", "b t b t fx gx"},
		{"X", "X", "fx cx gx", "b t gx dx"},
		{"X", "X", "fx fx cx", "fx fx b t"},
		{"X", "Y", "yx", "t b gx dx"},
	}
	head := heads[g.random.Intn(len(heads))]
	p := api.Play{Pitches: head.pitches, Event: head.event, Late: g.random.Intn(12) == 0}
	for from := 3; from > 0; from-- {
		if s.Bases[from-1] != 0 && g.random.Intn(3) > 0 {
			p.Moves = append(p.Moves, g.move(from, head.runners))
		}
	}
	if head.event != "" {
		p.Moves = append(p.Moves, g.move(0, head.batter))
	}
	return p
}

// plays draws the plays of a half, up to a number of them.
func (g *generator) plays(most int) []api.Play {
	var l []api.Play
	s := rule.Start()
	for len(l) < most && s.Half == 0 {
		p := g.play(s)
		if next, _, e := rule.Apply(s, p); e == api.OK {
			l, s = append(l, p), next
		}
	}
	return l
}

// judgments draws some judgments of the kinds of a string that fit.
func (g *generator) judgments(plays []api.Play, kinds string) []api.Judgment {
	var l []api.Judgment
	for at, p := range plays {
		for _, m := range p.Moves {
			if m.Out || g.random.Intn(3) > 0 {
				continue
			}
			kind := g.one(kinds)
			j := api.Judgment{Play: at, From: m.From, Kind: kind, Rule: 1 + slices.Index(rulingList, kind)}
			if kind == "life" || kind == "error" {
				j.Fielder = m.By[0]
			}
			if kind == "hit" || kind == "error" {
				j.Base = max(1, m.From+g.random.Intn(m.To-m.From))
			}
			if set, e := judge.Set(plays, l, j); e == api.OK {
				l = set
			}
		}
	}
	return l
}

// relief draws the plays before which pitchers come in.
func (g *generator) relief(plays int) []int {
	var l []int
	for at := 1; at < plays; at++ {
		if g.random.Intn(4) == 0 {
			l = append(l, at)
		}
	}
	return l
}

// half draws a half with judgments of the kinds of a string.
func (g *generator) half(most int, kinds string) earned.Half {
	plays := g.plays(most)
	return earned.Half{Plays: plays, Judgments: g.judgments(plays, kinds), Relief: g.relief(len(plays))}
}

// extras draws extras of a half.
func (g *generator) extras(h earned.Half, runners int) []earned.Extra {
	var l []earned.Extra
	for at := range h.Plays {
		for i := range runners {
			if g.random.Intn(2) == 0 {
				l = append(l, earned.Extra{Play: at, Runner: i + 1, Bases: g.random.Intn(4)})
			}
		}
	}
	return l[:min(len(l), api.MaxList)]
}

// misplays are the kinds of judgments from which most halves are drawn; others are those that are none.
const (
	misplays = "error passed life error passed choice error passed error"
	others   = "hit choice wild steal idle sacrifice choice"
)
