package earned_test

import (
	"slices"
	"strings"
	"testing"

	"dugout/api"
	"dugout/earned"
	"dugout/judge"
	"dugout/rule"
)

// account is a half as the definitions of the document have it.
type account struct {
	h        earned.Half
	complete []api.Judgment
	states   []rule.State
	cleans   [][]judge.Clean
	bases    [][3]int // before each play, and after the last one
	numbers  [][]int  // for each play those of its moves
	runners  []earned.Runner
}

// newAccount follows the runners from base to base.
func newAccount(h earned.Half) *account {
	a := &account{h: h}
	a.complete, _ = judge.Complete(h.Plays, h.Judgments)
	a.states, _, _, _ = rule.Replay(h.Plays)
	var on [3]int
	for at, p := range h.Plays {
		cleans, _ := judge.Cleans(h.Plays, h.Judgments, at)
		a.cleans = append(a.cleans, cleans)
		a.bases = append(a.bases, on)
		outs := a.states[at].Outs
		for _, m := range p.Moves {
			if m.Out {
				outs++
			}
		}
		batter, next := len(a.runners)+1, on
		if p.Event != "" {
			a.runners = append(a.runners, earned.Runner{Turn: at, Run: -1, Out: -1})
		}
		var numbers []int
		for _, m := range p.Moves {
			n := batter
			if m.From > 0 {
				n = on[m.From-1]
				next[m.From-1] = 0
			}
			numbers = append(numbers, n)
			switch {
			case m.Out:
				a.runners[n-1].Out = at
			case m.To < 4:
				next[m.To-1] = n
			case outs < 3 || !p.Late && !slices.ContainsFunc(p.Moves, isClosing):
				a.runners[n-1].Run = at
			}
		}
		a.numbers = append(a.numbers, numbers)
		if on = next; outs == 3 {
			on = [3]int{}
		}
	}
	a.bases = append(a.bases, on)
	return a
}

func isClosing(m api.Move) bool {
	return m.Out && (m.How == "f" || m.From == 0 && (strings.Contains("ckny", m.How) || m.How == "g" && m.To == 1))
}

// tale is a reconstruction: for each play of it the places of the runners (0 of one who is out), its outs, and its doubts.
type tale struct {
	places []map[int]int
	outs   []earned.Out
	doubts []earned.Extra
	third  int
}

// tell goes over the half from a play on.
func (a *account) tell(from int, extras []earned.Extra) tale {
	t := tale{third: -1}
	outs, place := a.states[from].Outs, map[int]int{}
	for base, n := range a.bases[from] {
		if n > 0 {
			place[n] = base + 1
		}
	}
	for at := from; at < len(a.h.Plays) && t.third < 0; at++ {
		outsBefore, before := outs, map[int]int{}
		for n, p := range place {
			before[n] = p
		}
		here := a.tellOuts(at, place, &t)
		outs += len(here)
		least := map[int]int{}
		for n, p := range place {
			if p > 0 {
				least[n] = p
			}
		}
		a.tellLeast(at, before, least, extras, &t)
		last := 0
		for n := len(a.runners); n > 0; n-- {
			if least[n] > 0 && !here[n] {
				place[n] = min(4, max(least[n], last+1))
				last = place[n]
			}
		}
		if outs >= 3 {
			t.third = at
			a.tellEnd(at, before, place, outsBefore == a.states[at].Outs && a.isFact(at, here))
		}
		row := map[int]int{}
		for n, p := range place {
			row[n] = p
		}
		t.places = append(t.places, row)
	}
	return t
}

// tellOuts makes the outs of a play, and returns who is out in it.
func (a *account) tellOuts(at int, place map[int]int, t *tale) map[int]bool {
	here := map[int]bool{}
	for i, m := range a.h.Plays[at].Moves {
		n := a.numbers[at][i]
		takesPart := m.From == 0 || place[n] > 0
		if takesPart && a.cleans[at][i].Out {
			place[n], here[n] = 0, true
			t.outs = append(t.outs, earned.Out{Play: at, Runner: n, Fact: m.Out})
		}
	}
	return here
}

// tellLeast finds the least places of those who have moves.
func (a *account) tellLeast(at int, before, least map[int]int, extras []earned.Extra, t *tale) {
	for i, m := range a.h.Plays[at].Moves {
		n, c := a.numbers[at][i], a.cleans[at][i]
		switch {
		case c.Out || m.From > 0 && before[n] == 0:
		case m.From == 0 || before[n] == m.From:
			least[n] = c.To
		default:
			for _, x := range extras {
				if x.Play == at && x.Runner == n {
					least[n] = min(before[n]+x.Bases, c.To)
				}
			}
			if c.To > before[n] {
				t.doubts = append(t.doubts, earned.Extra{Play: at, Runner: n, Bases: c.To - before[n]})
			}
		}
	}
}

// tellEnd sends back those who came home with the third out.
func (a *account) tellEnd(at int, before, place map[int]int, isFact bool) {
	for n, p := range place {
		if before[n] < 4 && p == 4 && !(isFact && a.runners[n-1].Run == at) {
			place[n] = 3
		}
	}
}

// isFact reports whether just some runners are out in a play in fact.
func (a *account) isFact(at int, here map[int]bool) bool {
	for i, m := range a.h.Plays[at].Moves {
		if here[a.numbers[at][i]] != m.Out {
			return false
		}
	}
	return true
}

// takesPart reports whether a runner takes part in the reconstruction from a play.
func (a *account) takesPart(n, from int) bool {
	return a.runners[n-1].Turn >= from || slices.Contains(a.bases[from][:], n)
}

// home returns the first play after which a runner is at home, or -1.
func (a *account) home(t tale, from, n int) int {
	for i, row := range t.places {
		if row[n] == 4 {
			return from + i
		}
	}
	return -1
}

// rows returns the places of a tale as Places has them.
func (a *account) rows(t tale, from int) [][]int {
	var l [][]int
	for i, places := range t.places {
		var row []int
		for k, r := range a.runners {
			p, takesPart := places[k+1]
			if !takesPart {
				p = -1
			}
			if r.Turn <= from+i {
				row = append(row, p)
			}
		}
		l = append(l, row)
	}
	return l
}

// charges returns the pitchers to whom the runners are charged.
func (a *account) charges() []int {
	charges := make([]int, len(a.runners))
	for i, r := range a.runners {
		own := 0
		for _, at := range a.h.Relief {
			if at <= r.Turn {
				own++
			}
		}
		charges[i] = own
		isChoice := slices.ContainsFunc(a.complete, func(j api.Judgment) bool {
			return j.Play == r.Turn && j.From == 0 && j.Kind == "choice"
		})
		for k, m := range a.h.Plays[r.Turn].Moves {
			if other := a.numbers[r.Turn][k]; isChoice && m.Out && charges[other-1] != own {
				charges[i], isChoice = charges[other-1], false
			}
		}
	}
	return charges
}

// lines returns what the pitchers are charged with.
func (a *account) lines() []earned.Line {
	var lines []earned.Line
	charges := a.charges()
	for k, from := range slices.Concat([]int{0}, a.h.Relief) {
		l, t := earned.Line{From: from}, a.tell(from, nil)
		for i, r := range a.runners {
			isRun := r.Run >= 0
			if isRun && charges[i] == k {
				l.Runs++
				if a.home(t, from, i+1) >= 0 {
					l.Earned++
				}
			}
			if k > 0 && slices.Contains(a.bases[from][:], i+1) {
				l.Inherited++
				if isRun {
					l.Scored++
				}
			}
		}
		lines = append(lines, l)
	}
	return lines
}

// TestByDefinition compares all results for halves that are drawn with those of the definitions.
func TestByDefinition(t *testing.T) {
	g := newGenerator(1)
	seen := map[string]int{}
	for i := range 80 {
		h := g.half(16, []string{misplays, misplays + " " + others}[i%2])
		want(t, "CheckHalf", earned.CheckHalf(h), api.OK)
		a := newAccount(h)
		runners, _ := earned.Runners(h)
		want(t, "Runners", runners, a.runners)
		bases, _ := earned.Bases(h)
		want(t, "Bases", bases, a.bases)
		charges, _ := earned.Charges(h)
		want(t, "Charges", charges, a.charges())
		lines, _ := earned.Lines(h)
		want(t, "Lines", lines, a.lines())
		for from := range len(h.Plays) + 1 {
			compareFrom(t, g, a, from, seen)
		}
	}
	for _, what := range []string{"earned", "unearned", "absent", "third", "no third", "doubts", "reckoned"} {
		want(t, "there is "+what, seen[what] > 10, true)
	}
}

// compareFrom compares the results of a reconstruction with the definition.
func compareFrom(t *testing.T, g *generator, a *account, from int, seen map[string]int) {
	t.Helper()
	h, told := a.h, a.tell(from, nil)
	places, e := earned.Places(h, from)
	want(t, "the error of Places", e, api.OK)
	alike(t, "Places", places, a.rows(told, from))
	outs, _ := earned.Outs(h, from)
	want(t, "Outs", outs, told.outs)
	doubts, _ := earned.Doubts(h, from)
	want(t, "Doubts", doubts, told.doubts)
	seen["doubts"] += len(doubts)
	third, e := earned.Third(h, from)
	if told.third < 0 {
		want(t, "Third", []any{third, e}, []any{0, api.ErrNone})
		seen["no third"]++
	} else {
		want(t, "Third", []any{third, e}, []any{told.third, api.OK})
		seen["third"]++
	}
	extras := g.extras(h, len(a.runners))
	reckoned, resolved := a.tell(from, extras), a.tell(from, doubts)
	var all, is, isNot, withExtras, withDoubts []int
	for i, r := range a.runners {
		n := i + 1
		if r.Run < 0 {
			_, e := earned.Certify(h, from, n)
			want(t, "Certify without a run", e, api.ErrNone)
			continue
		}
		all = append(all, n)
		c := earned.Certificate{Runner: n, Play: -1}
		at := a.home(told, from, n)
		switch {
		case at >= 0:
			c.Earned, c.Play = true, at
			is = append(is, n)
			seen["earned"]++
		case a.takesPart(n, from):
			c.Play, c.Outs = told.third, told.outs
			isNot = append(isNot, n)
			seen["unearned"]++
		default:
			seen["absent"]++
		}
		if a.home(reckoned, from, n) >= 0 {
			withExtras = append(withExtras, n)
		}
		if a.home(resolved, from, n) >= 0 {
			withDoubts = append(withDoubts, n)
		}
		got, e := earned.Certify(h, from, n)
		want(t, "the error of Certify", e, api.OK)
		want(t, "Certify", []any{got.Runner, got.Earned, got.Play, slices.Equal(got.Outs, c.Outs)}, []any{n, c.Earned, c.Play, true})
		want(t, "CheckCertificate", earned.CheckCertificate(h, from, c), api.OK)
	}
	seen["reckoned"] += len(withExtras) + len(withDoubts) - 2*len(is)
	l, _ := earned.Runs(h)
	want(t, "Runs", l, all)
	l, _ = earned.Earned(h, from)
	want(t, "Earned", l, is)
	l, _ = earned.Unearned(h, from)
	want(t, "Unearned", l, isNot)
	l, e = earned.Reckon(h, from, extras)
	want(t, "the error of Reckon", e, api.OK)
	want(t, "Reckon", l, withExtras)
	l, e = earned.Reckon(h, from, doubts)
	want(t, "the error of Reckon with doubts", e, api.OK)
	want(t, "Reckon with doubts", l, withDoubts)
}
