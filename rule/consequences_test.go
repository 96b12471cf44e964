package rule_test

import (
	"math/rand"
	"testing"

	"dugout/api"
	"dugout/play"
	"dugout/rule"
)

// optionsFrom returns moves of one runner that have their form, with no move first.
func optionsFrom(from int) []api.Move {
	var moves []api.Move
	for _, isOut := range []bool{false, true} {
		for to := 1; to <= 4; to++ {
			for _, how := range "baspktofgcdny" {
				m := api.Move{From: from, To: to, Out: isOut, How: string(how), By: []int{6, 4}}
				if play.CheckMove(m) == api.OK {
					moves = append(moves, m)
				}
			}
		}
	}
	return moves
}

// generator draws plays, always the same ones.
type generator struct {
	random  *rand.Rand
	options [4][]api.Move
}

func newGenerator(seed int64) *generator {
	g := &generator{random: rand.New(rand.NewSource(seed))}
	for from := range g.options {
		g.options[from] = optionsFrom(from)
	}
	return g
}

// play draws a play that has its form; most of them break a rule.
func (g *generator) play(s rule.State) api.Play {
	heads := [][2]string{{"", ""}, {"B", ""}, {"C", ""}, {"F", ""}, {"B", "W"}, {"BBBB", "W"}, {"S", "K"}, {"CCS", "K"}, {"H", "H"}, {"", "I"}, {"X", "X"}, {"X", "X"}, {"X", "X"}, {"BX", "X"}, {"X", "Y"}, {"", "N"}}
	head := heads[g.random.Intn(len(heads))]
	p := api.Play{Pitches: head[0], Event: head[1], Late: g.random.Intn(8) == 0}
	for from := 3; from >= 0; from-- {
		takesPart := from == 0 && p.Event != "" || from > 0 && s.Bases[from-1] != 0 && g.random.Intn(3) > 0
		if takesPart {
			p.Moves = append(p.Moves, g.options[from][g.random.Intn(len(g.options[from]))])
		}
	}
	return p
}

// follow draws a play that breaks no rule.
func (g *generator) follow(s rule.State) api.Play {
	for range 2000 {
		p := g.play(s)
		if _, _, e := rule.Apply(s, p); e == api.OK {
			return p
		}
	}
	return api.Play{}
}

// game draws a game of at most MaxPlays plays.
func (g *generator) game() []api.Play {
	var l []api.Play
	s := rule.Start()
	for !s.Over && len(l) < api.MaxPlays {
		p := g.follow(s)
		l = append(l, p)
		s, _, _ = rule.Apply(s, p)
	}
	return l
}

// runnersOf returns the number of runners of a state.
func runnersOf(s rule.State) int {
	n := 0
	for _, slot := range s.Bases {
		if slot != 0 {
			n++
		}
	}
	return n
}

func TestNobodyIsLost(t *testing.T) {
	g := newGenerator(3)
	for range 40 {
		s := rule.Start()
		for range 100 {
			if s.Over {
				break
			}
			p := g.follow(s)
			s = checkBalance(t, s, p)
		}
	}
}

// checkBalance counts those who take part in a play before and after it, and returns the state after it.
func checkBalance(t *testing.T, s rule.State, p api.Play) rule.State {
	t.Helper()
	text, _ := play.Print(p)
	what := shown(t, s) + ", " + text
	next, _, e := rule.Apply(s, p)
	want(t, what, e, api.OK)
	want(t, what+", the next state", rule.CheckState(next), api.OK)
	scored, _ := rule.Scored(s, p)
	left, _ := rule.Left(s, p)
	ends, _ := rule.Ends(s, p)
	outs, _ := play.Outs(p)
	before := runnersOf(s)
	if p.Event != "" {
		before++
	}
	want(t, what+", all of them", len(scored)+len(left)+outs+runnersOf(next), before)
	want(t, what+", the score", next.Score[s.Half]-s.Score[s.Half], len(scored))
	want(t, what+", the other score", next.Score[1-s.Half], s.Score[1-s.Half])
	want(t, what+", over", next.Over, ends == 2)
	want(t, what+", another half", next.Half != s.Half, ends == 1)
	if ends == 0 {
		want(t, what+", the outs", next.Outs, s.Outs+outs)
		want(t, what+", those left", len(left), 0)
	}
	back, e := rule.Parse(shown(t, next))
	want(t, what+", printed and parsed", e, api.OK)
	want(t, what+", printed and parsed", back, next)
	return next
}

func TestHalvesBalance(t *testing.T) {
	g := newGenerator(11)
	for range 12 {
		l := g.game()
		halves, e := rule.Halves(l)
		want(t, "the error of the halves", e, api.OK)
		line, _ := rule.Line(l)
		var runs, sums [2]int
		at := 0
		for _, h := range halves {
			want(t, "the turns of a half", h.Turns, h.Runs+h.Outs+h.Left)
			want(t, "the first play of a half", h.From, at)
			want(t, "the runs of a half", line[h.Inning-1][h.Side], h.Runs)
			runs[h.Side] += h.Runs
			at = h.To
		}
		want(t, "the plays of all halves", at, len(l))
		for _, inning := range line {
			sums[0] += inning[0]
			sums[1] += inning[1]
		}
		final, _, _, _ := rule.Final(l)
		want(t, "the runs of the halves", runs, final.Score)
		want(t, "the runs of the line", sums, final.Score)
	}
}

func TestGamesInTwoParts(t *testing.T) {
	g := newGenerator(5)
	l := g.game()
	whole, _, _, e := rule.Replay(l)
	want(t, "the error of the game", e, api.OK)
	for n := range len(l) + 1 {
		part, _, _, _ := rule.Replay(l[:n])
		want(t, "the states of the first part", part, whole[:n+1])
		s := part[n]
		for _, p := range l[n:] {
			s, _, _ = rule.Apply(s, p)
		}
		want(t, "the end of the second part", s, whole[len(l)])
	}
}
