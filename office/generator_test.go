package office_test

import (
	"math/rand"
	"slices"
	"strconv"
	"strings"

	"dugout/api"
	"dugout/office"
	"dugout/play"
	"dugout/rule"
)

// generator draws games and journals, always the same ones.
type generator struct {
	random *rand.Rand
}

func newGenerator(seed int64) *generator {
	return &generator{rand.New(rand.NewSource(seed))}
}

// one returns a word of a string.
func (g *generator) one(text string) string {
	l := strings.Split(text, " ")
	return l[g.random.Intn(len(l))]
}

// move draws a move by one of some ways; many of them do not have their form. A way of an out has an x behind it.
func (g *generator) move(from int, ways string) api.Move {
	how := g.one(ways)
	by := [][]int{{2}, {8, 6}, {6, 4, 6}, {6, 4, 3}, {1, 3}}[g.random.Intn(5)]
	to := []int{from + 1, from + 1, from + 2, from + 1 + g.random.Intn(4)}[g.random.Intn(4)]
	m := api.Move{From: from, To: min(4, to), How: how[:1], Out: len(how) > 1, By: by}
	if m.Out && g.random.Intn(3) == 0 {
		m.To = from
	}
	return m
}

// play draws a play; most of them break a rule.
func (g *generator) play(s rule.State) api.Play {
	heads := []struct{ pitches, event, batter, runners string }{
		{"B", "", "", "s p s p t gx nx"},
		{"", "", "", "k gx"},
		{"BBBB", "W", "a", "a a s p gx"},
		{"CCS", "K", "kx kx p t", "s p t gx"},
		{"CCS", "K", "kx", "s gx"},
		{"S", "K", "kx p fx", "s p t gx"},
		{"X", "X", "b t b t o fx cx gx", "b t b t o fx gx dx"},
		{"X", "X", "fx fx cx", "fx fx b t"},
		{"X", "X", "fx cx", "gx"},
		{"X", "Y", "yx", "t b gx dx"},
		{"", "N", "nx", "s"},
	}
	head := heads[g.random.Intn(len(heads))]
	p := api.Play{Pitches: head.pitches, Event: head.event, Late: g.random.Intn(12) == 0}
	for from := 3; from > 0; from-- {
		if s.Bases[from-1] != 0 && g.random.Intn(3) > 0 {
			p.Moves = append(p.Moves, g.move(from, head.runners))
		}
	}
	if head.event != "" {
		p.Moves = append(p.Moves, g.move(0, head.batter))
	}
	return p
}

// next draws a play that may follow in a state in which the game is not over.
func (g *generator) next(s rule.State) api.Play {
	for {
		p := g.play(s)
		if _, _, e := rule.Apply(s, p); e == api.OK {
			return p
		}
	}
}

// plays draws the plays of a game, up to a number of them.
func (g *generator) plays(most int) []api.Play {
	var l []api.Play
	for s := rule.Start(); len(l) < most && !s.Over; s, _, _, _ = rule.Final(l) {
		l = append(l, g.next(s))
	}
	return l
}

// line draws an event, without its number, of a game that has a name and some plays; many of them are not accepted.
func (g *generator) line(x office.Game, day int) string {
	head := " " + x.Name + " " + strconv.Itoa(day)
	switch g.random.Intn(16) {
	case 0:
		return "open " + g.one("g k") + " v " + g.one("h h h v") + " " + strconv.Itoa(day)
	case 1, 2:
		return "undo"
	case 3:
		return "drop" + head
	case 4:
		return "close" + head
	case 5, 6, 7:
		return g.one("judge judge reverse") + g.judgment(x, day)
	case 8, 9:
		return g.change(x, head)
	}
	s, _, _, _ := rule.Final(x.Plays)
	p := g.play(s)
	if !s.Over && g.random.Intn(5) > 0 {
		p = g.next(s)
	}
	return "play" + head + " " + textOf(p)
}

// textOf returns the string of a play, or one of another play if it has no form.
func textOf(p api.Play) string {
	s, e := play.Print(p)
	if e != api.OK {
		return "- -"
	}
	return s
}

// judgment draws the names and the values of a judgment.
func (g *generator) judgment(x office.Game, day int) string {
	at, from, fielder := g.random.Intn(len(x.Plays)+1), g.random.Intn(4), 0
	kind := g.one("hit life error choice wild passed steal idle sacrifice life error note")
	if at < len(x.Plays) && len(x.Plays[at].Moves) > 0 {
		m := x.Plays[at].Moves[g.random.Intn(len(x.Plays[at].Moves))]
		from = m.From
		if len(m.By) > 0 && (kind == "life" || kind == "error") {
			fielder = m.By[0]
		}
	}
	base := 0
	if kind == "hit" || kind == "error" {
		base = g.random.Intn(4)
	}
	return " " + x.Name + " " + kind + " " + strconv.Itoa(day) + " " + strconv.Itoa(at) + " " + strconv.Itoa(from) + " " + strconv.Itoa(base) + " " + strconv.Itoa(fielder)
}

// change draws a change of a play.
func (g *generator) change(x office.Game, head string) string {
	at := g.random.Intn(len(x.Plays) + 1)
	p := api.Play{}
	if at < len(x.Plays) {
		states, _, _, _ := rule.Replay(x.Plays)
		p = g.next(states[at])
		if moves := x.Plays[at].Moves; len(moves) > 0 && g.random.Intn(2) == 0 {
			p = x.Plays[at]
			p.Moves = slices.Clone(moves)
			p.Moves[0].By = []int{2 + g.random.Intn(8)}
		}
	}
	return "change" + head + " " + strconv.Itoa(at) + " " + textOf(p)
}
