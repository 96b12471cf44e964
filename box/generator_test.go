package box_test

import (
	"math/rand"
	"slices"
	"strconv"
	"strings"

	"dugout/api"
	"dugout/box"
	"dugout/judge"
	"dugout/lineup"
	"dugout/rule"
)

// generator draws games, always the same ones.
type generator struct {
	random *rand.Rand
	names  int
}

func newGenerator(seed int64) *generator {
	return &generator{random: rand.New(rand.NewSource(seed))}
}

// one returns a word of a string.
func (g *generator) one(text string) string {
	l := strings.Split(text, " ")
	return l[g.random.Intn(len(l))]
}

// move draws a move by one of some ways; many of them do not have their form. A way of an out has an x behind it.
func (g *generator) move(from int, ways string) api.Move {
	how := g.one(ways)
	by := [][]int{{2}, {8, 6}, {6, 4, 6}, {6, 4, 3}, {1, 3}}[g.random.Intn(5)]
	to := []int{from + 1, from + 1, from + 2, from + 1 + g.random.Intn(4)}[g.random.Intn(4)]
	m := api.Move{From: from, To: min(4, to), How: how[:1], Out: len(how) > 1, By: by}
	if m.Out && g.random.Intn(3) == 0 {
		m.To = from
	}
	return m
}

// play draws a play; most of them break a rule.
func (g *generator) play(s rule.State) api.Play {
	heads := []struct{ pitches, event, batter, runners string }{
		{"B", "", "", "s p s p t gx nx"},
		{"", "", "", "k gx"},
		{"BBBB", "W", "a", "a a s p gx"},
		{"H", "H", "a", "a"},
		{"", "I", "a", "a"},
		{"CCS", "K", "kx kx p t", "s p t gx"},
		{"CCS", "K", "kx", "s gx"},
		{"S", "K", "kx p fx", "s p t gx"},
		{"X", "X", "b t b t o fx cx gx", "b t b t o fx gx dx"},
		{"X", "X", "fx fx cx", "fx fx b t"},
		{"X", "X", "fx cx", "b"},
		{"X", "X", "fx cx", "gx"},
		{"X", "Y", "yx", "t b gx dx"},
		{"", "N", "nx", "s"},
	}
	head := heads[g.random.Intn(len(heads))]
	p := api.Play{Pitches: head.pitches, Event: head.event, Late: g.random.Intn(12) == 0}
	for from := 3; from > 0; from-- {
		if s.Bases[from-1] != 0 && g.random.Intn(3) > 0 {
			p.Moves = append(p.Moves, g.move(from, head.runners))
		}
	}
	if head.event != "" {
		p.Moves = append(p.Moves, g.move(0, head.batter))
	}
	return p
}

// plays draws the plays of a game, up to a number of them.
func (g *generator) plays(most int) []api.Play {
	var l []api.Play
	s := rule.Start()
	for len(l) < most && !s.Over {
		p := g.play(s)
		if next, _, e := rule.Apply(s, p); e == api.OK {
			l, s = append(l, p), next
		}
	}
	return l
}

// judgments draws some judgments that fit.
func (g *generator) judgments(plays []api.Play) []api.Judgment {
	var l []api.Judgment
	for at, p := range plays {
		for _, m := range p.Moves {
			if g.random.Intn(3) > 0 {
				continue
			}
			kind := g.one("error life error life passed choice sacrifice hit wild steal idle")
			j := api.Judgment{Play: at, From: m.From, Kind: kind, Rule: 1 + slices.Index(rulingList, kind)}
			if kind == "life" || kind == "error" {
				j.Fielder = m.By[0]
			}
			if kind == "hit" || kind == "error" {
				j.Base = max(1, m.From+g.random.Intn(1+m.To-m.From))
			}
			if set, e := judge.Set(plays, l, j); e == api.OK {
				l = set
			}
		}
	}
	return l
}

// call draws the changes of a side before a play: some slots, often that of the pitcher, pass their positions around, and some of them get new players.
func (g *generator) call(l lineup.Lineup, side, play int) []lineup.Change {
	chosen := g.random.Perm(9)[:1+g.random.Intn(3)]
	if pitcher := slices.Index(l.Positions[:], 1); g.random.Intn(2) == 0 && !slices.Contains(chosen, pitcher) {
		chosen = append(chosen, pitcher)
	}
	slices.Sort(chosen)
	var call []lineup.Change
	for n, i := range chosen {
		c := lineup.Change{Play: play, Side: side, Slot: i + 1, Player: l.Batters[i], Position: l.Positions[chosen[(n+1)%len(chosen)]]}
		if len(chosen) == 1 || g.random.Intn(2) == 0 {
			g.names++
			c.Player = g.one("n N m_ z") + strconv.Itoa(g.names)
		}
		call = append(call, c)
	}
	return call
}

// changes draws changes for T, one call in so many plays.
func (g *generator) changes(plays, rate int) []lineup.Change {
	now := teams()
	var l []lineup.Change
	for play := range plays + 1 {
		for side := range 2 {
			if g.random.Intn(rate) > 0 || len(l) > api.MaxChanges-4 {
				continue
			}
			for _, c := range g.call(now[side], side, play) {
				now[side].Batters[c.Slot-1], now[side].Positions[c.Slot-1] = c.Player, c.Position
				l = append(l, c)
			}
		}
	}
	return l
}

// game draws a game with changes and judgments.
func (g *generator) game(most int) box.Game {
	plays := g.plays(most)
	return box.Game{Teams: teams(), Changes: g.changes(len(plays), 6+g.random.Intn(20)), Plays: plays, Judgments: g.judgments(plays)}
}

// whole draws a game that is over, and is not even.
func (g *generator) whole() box.Game {
	for {
		x := g.game(api.MaxPlays)
		if s, _, _, _ := rule.Final(x.Plays); s.Over && s.Score[0] != s.Score[1] {
			return x
		}
	}
}
