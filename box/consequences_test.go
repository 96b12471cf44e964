package box_test

import (
	"cmp"
	"slices"
	"testing"

	"dugout/api"
	"dugout/box"
	"dugout/credit"
	"dugout/earned"
	"dugout/lineup"
	"dugout/play"
	"dugout/rule"
)

// states returns the states of a game.
func states(g box.Game) []rule.State {
	l, _, _, _ := rule.Replay(g.Plays)
	return l
}

// pitchesAt returns the pitcher of the side in the field at a play, and this side.
func pitchesAt(g box.Game, at int) (int, string) {
	side := 1 - states(g)[at].Half
	name, _ := lineup.Who(g.Teams, g.Changes, at, side, 1)
	return side, name
}

// boxByDefinition returns the box of some plays, as the chapter defines it.
func boxByDefinition(t *testing.T, g box.Game, from, to int) box.Box {
	t.Helper()
	var b box.Box
	if from == to {
		return b
	}
	s := states(g)
	b.Innings = make([][2]int, s[to-1].Inning)
	for at := from; at < to; at++ {
		credits, e := credit.Credits(g.Plays, g.Judgments, at)
		want(t, "the error of Credits", e, api.OK)
		for _, c := range credits {
			name, _ := lineup.Who(g.Teams, g.Changes, at, c.Side, max(1, c.Position))
			if c.Slot > 0 {
				now, _ := lineup.At(g.Teams, g.Changes, at)
				name = now[c.Side].Batters[c.Slot-1]
			}
			i := slices.IndexFunc(b.Lines, func(l box.Line) bool { return l.Side == c.Side && l.Player == name })
			if i < 0 {
				i = len(b.Lines)
				b.Lines = append(b.Lines, box.Line{Side: c.Side, Player: name})
			}
			b.Lines[i].Counts[slices.Index(kindList, c.Kind)] += c.N
		}
		scored, _ := rule.Scored(s[at], g.Plays[at])
		b.Innings[s[at].Inning-1][s[at].Half] += len(scored)
	}
	slices.SortFunc(b.Lines, func(a, b box.Line) int { return cmp.Or(a.Side-b.Side, cmp.Compare(a.Player, b.Player)) })
	after, _ := rule.Runners(s[to])
	before, _ := rule.Runners(s[from])
	b.Rest[s[to].Half] += len(after)
	b.Rest[s[from].Half] -= len(before)
	return b
}

func TestBoxesByTheirDefinition(t *testing.T) {
	g := newGenerator(1)
	seen := [box.MaxKinds]bool{}
	for range 25 {
		x := g.game(1 + g.random.Intn(90))
		n := len(x.Plays)
		from := g.random.Intn(n + 1)
		to := from + g.random.Intn(n-from+1)
		for _, part := range [][2]int{{0, n}, {from, to}} {
			b, e := box.Part(x, part[0], part[1])
			want(t, "the error of Part", e, api.OK)
			wantBox(t, "a part", b, boxByDefinition(t, x, part[0], part[1]))
			want(t, "the error of CheckBox", box.CheckBox(b), api.OK)
			for _, l := range b.Lines {
				for kind, n := range l.Counts {
					seen[kind] = seen[kind] || n > 0
				}
			}
		}
	}
	for kind, isSeen := range seen {
		want(t, "counts of "+kindList[kind]+" were drawn", isSeen, true)
	}
}

// expectBalance expects a box to balance, and to be parsed as it was printed.
func expectBalance(t *testing.T, b box.Box) {
	t.Helper()
	side, n, e := box.Prove(b)
	want(t, "Prove", []any{side, n, e}, []any{0, 0, api.OK})
	text, e := box.Print(b)
	want(t, "the error of Print", e, api.OK)
	again, at, e := box.Parse(text)
	want(t, "the error of Parse", []any{at, e}, []any{0, api.OK})
	wantBox(t, "what is parsed", again, b)
}

// padded returns a box with innings of 0 behind its own ones.
func padded(b box.Box, innings int) box.Box {
	b.Innings = append(slices.Clone(b.Innings), make([][2]int, innings-len(b.Innings))...)
	return b
}

func TestPartsBalanceAndAddUp(t *testing.T) {
	g := newGenerator(2)
	for range 40 {
		x := g.game(2 + g.random.Intn(100))
		n := len(x.Plays)
		whole, e := box.Compute(x)
		want(t, "the error of Compute", e, api.OK)
		expectBalance(t, whole)
		runs, _ := rule.Line(x.Plays)
		want(t, "the runs by innings", whole.Innings, runs)
		var sum box.Box
		for from := 0; from < n; {
			to := from + 1 + g.random.Intn(n-from)
			part, e := box.Part(x, from, to)
			want(t, "the error of Part", e, api.OK)
			expectBalance(t, part)
			before, _ := box.Part(x, 0, from)
			wantBox(t, "the parts so far", sum, before)
			sum, e = box.Merge(sum, part)
			want(t, "the error of Merge", e, api.OK)
			less, e := box.Minus(sum, before)
			want(t, "the error of Minus", e, api.OK)
			wantBox(t, "the second part that is left", less, part)
			less, _ = box.Minus(sum, part)
			wantBox(t, "the first part that is left", less, padded(before, len(sum.Innings)))
			from = to
		}
		wantBox(t, "all parts", sum, whole)
	}
}

// Each part of a game balances, that of any two plays, too.
func TestAllPartsBalance(t *testing.T) {
	g := newGenerator(3)
	for range 4 {
		x := g.game(40)
		for to := range len(x.Plays) + 1 {
			for from := range to + 1 {
				b, e := box.Part(x, from, to)
				want(t, "the error of Part", e, api.OK)
				side, n, e := box.Prove(b)
				want(t, "Prove", []any{side, n, e}, []any{0, 0, api.OK})
			}
		}
	}
}

// pitchersByDefinition returns the lines of pitchers, runner by runner.
func pitchersByDefinition(t *testing.T, g box.Game) []box.Pitcher {
	t.Helper()
	var l []box.Pitcher
	of := func(at int) *box.Pitcher {
		side, name := pitchesAt(g, at)
		i := slices.IndexFunc(l, func(p box.Pitcher) bool { return p.Side == side && p.Player == name })
		if i < 0 {
			i = len(l)
			l = append(l, box.Pitcher{Side: side, Player: name})
		}
		return &l[i]
	}
	parts, _ := rule.Halves(g.Plays)
	var relief []int
	for _, part := range parts {
		for at := part.From; at < part.To; at++ {
			n, _ := play.Outs(g.Plays[at])
			of(at).Outs += n
			_, name := pitchesAt(g, at)
			if at == part.From {
				continue
			}
			if _, before := pitchesAt(g, at-1); name != before {
				relief = append(relief, at)
			}
		}
	}
	halves, e := earned.Split(g.Plays, g.Judgments, relief)
	want(t, "the error of earned.Split", e, api.OK)
	for i, h := range halves {
		begin := parts[i].From
		charges, _ := earned.Charges(h)
		runs, _ := earned.Runs(h)
		bases, _ := earned.Bases(h)
		for k, entry := range append([]int{0}, h.Relief...) {
			p := of(begin + entry)
			safe, _ := earned.Earned(h, entry)
			for _, n := range runs {
				if charges[n-1] == k {
					p.Runs++
					if slices.Contains(safe, n) {
						p.Earned++
					}
				}
			}
			for _, n := range bases[entry] {
				if k > 0 && n > 0 {
					p.Inherited++
					if slices.Contains(runs, n) {
						p.Scored++
					}
				}
			}
		}
	}
	slices.SortFunc(l, func(a, b box.Pitcher) int { return cmp.Or(a.Side-b.Side, cmp.Compare(a.Player, b.Player)) })
	return l
}

func TestPitchersByTheirDefinition(t *testing.T) {
	g := newGenerator(4)
	more, scored := 0, 0
	for range 60 {
		x := g.game(1 + g.random.Intn(80))
		p, e := box.Pitching(x)
		want(t, "the error of Pitching", e, api.OK)
		want(t, "Pitching", p, pitchersByDefinition(t, x))
		team, e := box.Earned(x)
		want(t, "the error of Earned", e, api.OK)
		final, _, _, _ := rule.Final(x.Plays)
		halves, _ := rule.Halves(x.Plays)
		outs, runs, safe := [2]int{}, [2]int{}, [2]int{}
		for _, l := range p {
			outs[l.Side] += l.Outs
			runs[1-l.Side] += l.Runs
			safe[1-l.Side] += l.Earned
			scored += l.Scored
			want(t, "earned runs are runs", l.Earned <= l.Runs, true)
			want(t, "who scored was inherited", l.Scored <= l.Inherited, true)
		}
		for _, h := range halves {
			outs[1-h.Side] -= h.Outs
		}
		want(t, "the outs of all pitchers are those of the game", outs, [2]int{})
		want(t, "the runs of all pitchers are those of the game", runs, final.Score)
		want(t, "the earned runs of the sides", earnedByHalves(t, x), team)
		for side := range 2 {
			want(t, "all pitchers have at least the earned runs of the side", safe[side] >= team[side], true)
			more += safe[side] - team[side]
		}
	}
	want(t, "pitchers with more earned runs, and with runners who scored, were drawn", []bool{more > 0, scored > 10}, []bool{true, true})
}

// earnedByHalves returns the earned runs of both sides, runner by runner.
func earnedByHalves(t *testing.T, g box.Game) [2]int {
	t.Helper()
	var n [2]int
	parts, _ := rule.Halves(g.Plays)
	halves, _ := earned.Split(g.Plays, g.Judgments, nil)
	for i, h := range halves {
		safe, e := earned.Earned(h, 0)
		want(t, "the error of earned.Earned", e, api.OK)
		n[parts[i].Side] += len(safe)
	}
	return n
}

// decisionByDefinition returns the decision of a game that is over, as the chapter defines it.
func decisionByDefinition(g box.Game) box.Decision {
	s := states(g)
	n := len(g.Plays)
	winner := 0
	if s[n].Score[1] > s[n].Score[0] {
		winner = 1
	}
	ahead := func(at int) int { return s[at].Score[winner] - s[at].Score[1-winner] }
	name := func(at int) string {
		_, name := pitchesAt(g, at)
		return name
	}
	d := box.Decision{Play: -1}
	for at := range n {
		if ahead(at) <= 0 && ahead(at+1) > 0 {
			d.Play = at
		}
	}
	d.Loss = name(d.Play)
	last := -1
	for at := range n {
		if s[at].Half == winner {
			continue
		}
		if at < d.Play || d.Win == "" {
			d.Win = name(at)
		}
		last = at
	}
	for f := range n {
		isStretch, outs := s[f].Half != winner, 0
		for at := f; at < n; at++ {
			if s[at].Half != winner {
				isStretch = isStretch && name(at) == name(last)
				k, _ := play.Outs(g.Plays[at])
				outs += k
			}
		}
		if isStretch {
			isAhead := ahead(f) > 0 && (ahead(f) <= 3 || outs >= 9)
			if isAhead && name(last) != d.Win {
				d.Save = name(last)
			}
			return d
		}
	}
	return d
}

func TestDecisionsByTheirDefinition(t *testing.T) {
	g := newGenerator(5)
	saves, none, wins := 0, 0, [2]int{}
	for range 40 {
		x := g.whole()
		d, e := box.Decide(x)
		want(t, "the error of Decide", e, api.OK)
		want(t, "Decide", d, decisionByDefinition(x))
		s := states(x)
		l, e := box.Leads(x.Plays)
		want(t, "the error of Leads", e, api.OK)
		for at := range s {
			want(t, "a lead", l[at], s[at].Score[0]-s[at].Score[1])
		}
		winner := 0
		if l[len(l)-1] < 0 {
			winner = 1
		}
		wins[winner]++
		expectPitched(t, x, winner, d.Win)
		expectPitched(t, x, 1-winner, d.Loss)
		if d.Save == "" {
			none++
		} else {
			saves++
			expectPitched(t, x, winner, d.Save)
		}
	}
	want(t, "all kinds of decisions were drawn", []bool{saves > 3, none > 3, wins[0] > 3, wins[1] > 3}, []bool{true, true, true, true})
}

// expectPitched expects a player of a side to be one of the pitchers of a game.
func expectPitched(t *testing.T, g box.Game, side int, name string) {
	t.Helper()
	p, _ := box.Pitching(g)
	want(t, "a pitcher of the game", slices.ContainsFunc(p, func(p box.Pitcher) bool { return p.Side == side && p.Player == name }), true)
}
