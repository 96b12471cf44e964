package credit_test

import (
	"cmp"
	"slices"
	"strconv"
	"strings"
	"testing"

	"dugout/api"
	"dugout/credit"
	"dugout/judge"
	"dugout/play"
	"dugout/rule"
)

// definition counts the credits of a play as the table of kinds says.
type definition struct {
	state     rule.State
	play      api.Play
	judgments []api.Judgment // those of the complete list about the play
}

func (d definition) slot(from int) int {
	if from == 0 {
		return d.state.Next[d.state.Half]
	}
	return d.state.Bases[from-1]
}

// about returns how many judgments of a kind there are about a runner.
func (d definition) about(from int, kind string) int {
	n := 0
	for _, j := range d.judgments {
		if j.Kind == kind && j.From == from {
			n++
		}
	}
	return n
}

func (d definition) any(kind string) bool {
	return slices.ContainsFunc(d.judgments, func(j api.Judgment) bool { return j.Kind == kind })
}

func (d definition) event(letters string) bool {
	return d.play.Event != "" && strings.Contains(letters, d.play.Event)
}

func one(is bool) int {
	if is {
		return 1
	}
	return 0
}

// ofBatter returns how many credits of a kind the batter has that runners do not have.
func (d definition) ofBatter(kind string) int {
	base := 0
	for _, j := range d.judgments {
		if j.Kind == "hit" {
			base = j.Base
		}
	}
	switch kind {
	case "turn":
		return one(d.play.Event != "")
	case "ab":
		return one(d.event("KXNY") && d.about(0, "sacrifice") == 0)
	case "h":
		return d.about(0, "hit")
	case "d", "t", "hr":
		return one(base == 2+slices.Index([]string{"d", "t", "hr"}, kind))
	case "w", "k", "hp", "ci":
		return one(d.event(map[string]string{"w": "W", "k": "K", "hp": "H", "ci": "I"}[kind]))
	case "sac":
		return d.about(0, "sacrifice")
	case "rbi":
		return d.battedIn()
	}
	return 0
}

func (d definition) battedIn() int {
	forces, n := 0, 0
	scored, _ := rule.Scored(d.state, d.play)
	for _, m := range d.play.Moves {
		if m.Out && m.How == "f" {
			forces++
		}
		if slices.Contains(scored, d.slot(m.From)) && (m.How == "b" || m.How == "a") && d.about(m.From, "error") == 0 {
			n++
		}
	}
	if forces >= 2 || !d.event("XYWHI") {
		return 0
	}
	return n
}

// ofSlot returns how many credits of a kind a slot has.
func (d definition) ofSlot(kind string, slot int) int {
	n := 0
	if slot == d.slot(0) {
		n = d.ofBatter(kind)
	}
	scored, _ := rule.Scored(d.state, d.play)
	left, _ := rule.Left(d.state, d.play)
	switch kind {
	case "r":
		n += one(slices.Contains(scored, slot))
	case "lob":
		n += one(slices.Contains(left, slot))
	}
	for _, m := range d.play.Moves {
		if d.slot(m.From) != slot || m.From == 0 {
			continue
		}
		switch kind {
		case "sb":
			n += d.about(m.From, "steal")
		case "cs":
			n += one(m.Out && m.How == "g" && m.To > m.From && !d.event("XY"))
		}
	}
	return n
}

// ofPosition returns how many credits of a kind a fielder has.
func (d definition) ofPosition(kind string, position int) int {
	scored, _ := rule.Scored(d.state, d.play)
	outs, putouts, assists, faults, balk := 0, 0, 0, 0, false
	for _, m := range d.play.Moves {
		balk = balk || !m.Out && m.How == "k"
		if m.Out {
			outs++
			helpers, _ := play.Assists(d.play, m.From)
			assists += one(slices.Contains(helpers, position))
			putouts += one(m.By[len(m.By)-1] == position)
		}
	}
	for _, j := range d.judgments {
		faults += one((j.Kind == "life" || j.Kind == "error") && j.Fielder == position)
	}
	isPitcher := one(position == 1)
	switch kind {
	case "po":
		return putouts
	case "a":
		return assists
	case "e":
		return faults
	case "dp":
		return one(outs >= 2 && putouts+assists > 0)
	case "pb":
		return one(position == 2 && d.any("passed"))
	case "out":
		return isPitcher * outs
	case "ha", "wp":
		return isPitcher * one(d.any(map[string]string{"ha": "hit", "wp": "wild"}[kind]))
	case "wa", "ka", "hb":
		return isPitcher * one(d.event(map[string]string{"wa": "W", "ka": "K", "hb": "H"}[kind]))
	case "ra":
		return isPitcher * len(scored)
	case "bk":
		return isPitcher * one(balk)
	}
	return 0
}

// credits returns the credits of the play with an index.
func (d definition) credits(at int) []credit.Credit {
	var l []credit.Credit
	for i, kind := range kindList {
		for who := 1; who <= 9; who++ {
			c := credit.Credit{Play: at, Side: d.state.Half, Kind: kind, Slot: who, N: d.ofSlot(kind, who)}
			if i >= 16 {
				c = credit.Credit{Play: at, Side: 1 - d.state.Half, Kind: kind, Position: who, N: d.ofPosition(kind, who)}
			}
			if c.N > 0 {
				l = append(l, c)
			}
		}
	}
	return l
}

// byDefinition returns the credits of all plays of a game.
func byDefinition(plays []api.Play, l []api.Judgment) []credit.Credit {
	states, _, _, _ := rule.Replay(plays)
	complete, _ := judge.Complete(plays, l)
	var all []credit.Credit
	for at, p := range plays {
		all = append(all, definition{states[at], p, judge.Of(complete, at)}.credits(at)...)
	}
	return all
}

// sumByDefinition returns the totals of credits, each taken so many times.
func sumByDefinition(times int, l []credit.Credit, others []credit.Credit) []credit.Total {
	sums := map[credit.Total]int{}
	for i, list := range [][]credit.Credit{l, others} {
		for _, c := range list {
			n := c.N
			if i == 1 {
				n *= times
			}
			sums[credit.Total{Side: c.Side, Kind: c.Kind, Slot: c.Slot, Position: c.Position}] += n
		}
	}
	var all []credit.Total
	for x, n := range sums {
		if x.N = n; n != 0 {
			all = append(all, x)
		}
	}
	slices.SortFunc(all, func(a, b credit.Total) int {
		return cmp.Or(a.Side-b.Side, slices.Index(kindList, a.Kind)-slices.Index(kindList, b.Kind), a.Slot-b.Slot, a.Position-b.Position)
	})
	return all
}

// team returns the number of a kind that both sides have together.
func team(t *testing.T, s []credit.Total, kind string) int {
	t.Helper()
	n := 0
	for side := range 2 {
		k, e := credit.Team(s, side, kind)
		want(t, "the error of Team", e, api.OK)
		n += k
	}
	return n
}

func TestCreditsByTheirDefinition(t *testing.T) {
	g := newGenerator(1)
	seen := map[string]bool{}
	for range 150 {
		plays, _, l := g.course(4 + g.random.Intn(30))
		all, e := credit.All(plays, l)
		want(t, "the error of All", e, api.OK)
		want(t, "All", all, byDefinition(plays, l))
		want(t, "the error of CheckCredits", credit.CheckCredits(all), api.OK)
		var parts []credit.Credit
		for at := range plays {
			part, e := credit.Credits(plays, l, at)
			want(t, "the error of Credits", e, api.OK)
			parts = append(parts, part...)
			var double []int
			for _, c := range part {
				if c.Kind == "dp" {
					double = append(double, c.Position)
				}
			}
			f, e := credit.Double(plays, at)
			want(t, "the error of Double", e, api.OK)
			want(t, "Double", f, double)
		}
		want(t, "the credits of all plays", parts, all)
		s, e := credit.Sum(all)
		want(t, "the error of Sum", e, api.OK)
		want(t, "Sum", s, sumByDefinition(1, all, nil))
		for _, x := range s {
			seen[x.Kind] = true
		}
	}
	for _, kind := range kindList {
		want(t, "credits of the kind "+kind+" were drawn", seen[kind], true)
	}
}

func TestCreditsBalance(t *testing.T) {
	g := newGenerator(2)
	for range 100 {
		plays, _, l := g.course(4 + g.random.Intn(40))
		all, _ := credit.All(plays, l)
		s, _ := credit.Sum(all)
		final, _, _, _ := rule.Final(plays)
		outs := [2]int{}
		for _, c := range all {
			if c.Kind == "out" {
				outs[c.Side] += c.N
			}
		}
		halves, _ := rule.Halves(plays)
		counted := [2]int{}
		for _, h := range halves {
			counted[1-h.Side] += h.Outs
		}
		want(t, "the pitchers have all outs", outs, counted)
		for side := range 2 {
			n := func(kind string) int {
				k, e := credit.Team(s, side, kind)
				want(t, "the error of Team", e, api.OK)
				return k
			}
			of := func(kind string) int {
				k, _ := credit.Team(s, 1-side, kind)
				return k
			}
			want(t, "each out has one putout", n("po"), n("out"))
			want(t, "turns", n("turn"), n("ab")+n("w")+n("hp")+n("ci")+n("sac"))
			want(t, "runs are those of the score", n("r"), final.Score[side])
			want(t, "runs of the pitcher", of("ra"), n("r"))
			want(t, "hits of the pitcher", of("ha"), n("h"))
			want(t, "walks of the pitcher", of("wa"), n("w"))
			want(t, "strikeouts of the pitcher", of("ka"), n("k"))
			want(t, "batters whom the pitcher hit", of("hb"), n("hp"))
			errors, _ := judge.Errors(plays, l, side)
			want(t, "errors of a side", n("e"), errors[0])
			for position := 1; position <= 9; position++ {
				e, _ := credit.Of(s, side, "e", position)
				want(t, "errors of a fielder", e, errors[position])
			}
		}
	}
}

func TestOneJudgmentMore(t *testing.T) {
	g := newGenerator(3)
	for range 15 {
		plays, all, l := g.course(4 + g.random.Intn(12))
		before := byDefinition(plays, l)
		for _, j := range all {
			set, _ := judge.Set(plays, l, j)
			after := byDefinition(plays, set)
			effect, e := credit.Effect(plays, l, j)
			want(t, "the error of Effect", e, api.OK)
			want(t, "Effect", effect, sumByDefinition(-1, after, before))
			changed, e := credit.Changed(plays, l, set)
			want(t, "the error of Changed", e, api.OK)
			var plain []int
			if !slices.Equal(before, after) {
				plain = []int{j.Play}
			}
			want(t, "a judgment changes the credits of its play alone", changed, plain)
			checkRests(t, plays, set, j)
			checkSetBack(t, plays, l, j)
		}
	}
}

// checkRests expects Rests to return what a play has with a judgment, but not without it.
func checkRests(t *testing.T, plays []api.Play, set []api.Judgment, j api.Judgment) {
	t.Helper()
	without, _ := judge.Reverse(plays, set, j)
	others := byDefinition(plays, without)
	rests, e := credit.Rests(plays, set, j)
	want(t, "the error of Rests", e, api.OK)
	want(t, "Rests", rests, slices.DeleteFunc(byDefinition(plays, set), func(c credit.Credit) bool {
		return slices.Contains(others, c)
	}))
}

// checkSetBack expects the totals to be as they were when a judgment is set, and set back.
func checkSetBack(t *testing.T, plays []api.Play, l []api.Judgment, j api.Judgment) {
	t.Helper()
	set, _ := judge.Set(plays, l, j)
	back, _ := judge.Reverse(plays, set, j)
	for _, x := range l {
		if x != j && !slices.Contains(back, x) {
			back, _ = judge.Set(plays, back, x)
		}
	}
	if slices.Contains(l, j) {
		back, _ = judge.Set(plays, back, j)
	}
	before, _ := credit.All(plays, l)
	after, _ := credit.All(plays, set)
	restored, _ := credit.All(plays, back)
	want(t, "the credits when a judgment is set back", restored, before)
	effect, _ := credit.Effect(plays, l, j)
	totals, _ := credit.Sum(before)
	together, e := credit.Plus(totals, effect)
	want(t, "the error of Plus", e, api.OK)
	expected, _ := credit.Sum(after)
	want(t, "the totals with the effect", together, expected)
	less, _ := credit.Minus(expected, effect)
	want(t, "the totals without the effect", less, totals)
}

func TestTotalsAddUp(t *testing.T) {
	g := newGenerator(4)
	for range 100 {
		plays, _, l := g.course(4 + g.random.Intn(30))
		all, _ := credit.All(plays, l)
		at := g.random.Intn(len(all) + 1)
		whole, _ := credit.Sum(all)
		left, _ := credit.Sum(all[:at])
		right, _ := credit.Sum(all[at:])
		together, e := credit.Plus(left, right)
		want(t, "Plus", []any{together, e}, []any{whole, api.OK})
		other, _ := credit.Plus(right, left)
		want(t, "Plus the other way", other, whole)
		rest, e := credit.Minus(whole, right)
		want(t, "the error of Minus", e, api.OK)
		want(t, "Minus", rest, left)
		text, e := credit.Print(whole)
		want(t, "the error of Print", e, api.OK)
		parsed, line, e := credit.Parse(text)
		want(t, "Parse", []any{len(parsed), line, e}, []any{len(whole), 0, api.OK})
		want(t, "what is parsed", parsed, whole)
		less, _ := credit.Minus(nil, whole)
		text, _ = credit.Print(less)
		parsed, _, e = credit.Parse(text)
		want(t, "the error of Parse, of negative ones", e, api.OK)
		want(t, "what is parsed, of negative ones", parsed, less)
	}
}

// waysByDefinition follows each batter by himself, by the places that the states tell.
func waysByDefinition(plays []api.Play) []credit.Way {
	states, _, _, _ := rule.Replay(plays)
	var l []credit.Way
	for turn, p := range plays {
		if p.Event == "" {
			continue
		}
		side := states[turn].Half
		w := credit.Way{Side: side, Slot: states[turn].Next[side], Turn: turn, Last: len(plays) - 1, End: "on"}
		base := 0
		for at := turn; at < len(plays) && w.End == "on"; at++ {
			m, e := play.MoveOf(plays[at], base)
			if e == api.OK && !m.Out {
				w.Steps = append(w.Steps, credit.Step{Play: at, From: base, To: m.To})
				base = m.To
			}
			scored, _ := rule.Scored(states[at], plays[at])
			left, _ := rule.Left(states[at], plays[at])
			switch {
			case e == api.OK && m.Out:
				w.Last, w.End = at, "out"
			case slices.Contains(scored, w.Slot):
				w.Last, w.End = at, "run"
			case slices.Contains(left, w.Slot):
				w.Last, w.End = at, "left"
			}
		}
		l = append(l, w)
	}
	return l
}

func TestWaysByTheirDefinition(t *testing.T) {
	g := newGenerator(5)
	seen := map[string]int{}
	for range 300 {
		plays := g.game(4 + g.random.Intn(60))
		ways, e := credit.Ways(plays)
		want(t, "the error of Ways", e, api.OK)
		want(t, "Ways", ways, waysByDefinition(plays))
		all, _ := credit.All(plays, nil)
		s, _ := credit.Sum(all)
		ends := map[string]int{}
		for _, w := range ways {
			ends[w.End]++
			seen[w.End]++
			checkWay(t, w, len(plays))
		}
		final, _, _, _ := rule.Final(plays)
		want(t, "as many ways as turns", len(ways), team(t, s, "turn"))
		want(t, "as many runs", ends["run"], team(t, s, "r"))
		want(t, "as many outs", ends["out"], team(t, s, "out"))
		want(t, "as many left", ends["left"], team(t, s, "lob"))
		want(t, "as many on base", ends["on"], 3-count(final.Bases[:], 0))
	}
	want(t, "all ends were drawn", []bool{seen["run"] > 20, seen["out"] > 20, seen["left"] > 20, seen["on"] > 20}, []bool{true, true, true, true})
}

func count(l []int, wanted int) int {
	n := 0
	for _, x := range l {
		n += one(x == wanted)
	}
	return n
}

// checkWay expects a way to have no gaps.
func checkWay(t *testing.T, w credit.Way, plays int) {
	t.Helper()
	base, at := 0, w.Turn
	for _, step := range w.Steps {
		want(t, "where a step begins", step.From, base)
		want(t, "a step leads on", step.To > step.From && step.To <= 4, true)
		want(t, "the play of a step "+strconv.Itoa(step.Play), step.Play >= at && step.Play <= w.Last, true)
		base, at = step.To, step.Play+1
	}
	want(t, "a run is made at home", w.End != "run" || base == 4, true)
	want(t, "nobody stays at home", w.End != "on" || base > 0 && base < 4 && w.Last == plays-1, true)
	want(t, "the end of a way is behind its turn", w.Last >= w.Turn, true)
}
