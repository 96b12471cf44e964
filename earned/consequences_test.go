package earned_test

import (
	"slices"
	"testing"

	"dugout/api"
	"dugout/earned"
	"dugout/judge"
	"dugout/play"
	"dugout/rule"
)

// earnedFrom returns the runners whose runs are earned from a play.
func earnedFrom(t *testing.T, h earned.Half, from int) []int {
	t.Helper()
	l, e := earned.Earned(h, from)
	want(t, "the error of Earned", e, api.OK)
	return l
}

// isThere reports whether a runner is on a base before a play, or comes up later.
func isThere(t *testing.T, h earned.Half, n, from int) bool {
	t.Helper()
	bases, _ := earned.Bases(h)
	runners, _ := earned.Runners(h)
	return runners[n-1].Turn >= from || slices.Contains(bases[from][:], n)
}

// TestAllIsEarnedWithoutMisplays draws halves without misplays.
func TestAllIsEarnedWithoutMisplays(t *testing.T) {
	g := newGenerator(2)
	found := 0
	for range 120 {
		h := g.half(16, others)
		misplayed, _ := judge.Misplays(h.Plays, h.Judgments)
		want(t, "misplays", len(misplayed), 0)
		runs, _ := earned.Runs(h)
		found += len(runs)
		for from := range len(h.Plays) + 1 {
			all := slices.DeleteFunc(slices.Clone(runs), func(n int) bool { return !isThere(t, h, n, from) })
			want(t, "what is earned without misplays", earnedFrom(t, h, from), all)
			none, _ := earned.Unearned(h, from)
			want(t, "what is not earned without misplays", len(none), 0)
			doubts, _ := earned.Doubts(h, from)
			want(t, "doubts without misplays", len(doubts), 0)
		}
	}
	want(t, "there are runs", found > 120, true)
}

// TestNobodyIsFurtherThanInFact compares the places with the bases.
func TestNobodyIsFurtherThanInFact(t *testing.T) {
	g := newGenerator(3)
	behind := 0
	for range 120 {
		h := g.half(16, misplays)
		bases, _ := earned.Bases(h)
		runners, _ := earned.Runners(h)
		for from := range h.Plays {
			places, _ := earned.Places(h, from)
			for i, row := range places {
				for k, p := range row {
					base := slices.Index(bases[from+i+1][:], k+1) + 1
					isOn := base > 0
					hasRun := 0 <= runners[k].Run && runners[k].Run <= from+i
					if isOn && p > base || p == 4 && !hasRun {
						t.Errorf("the runner %d is at %d after the play %d, and in fact at %d", k+1, p, from+i, base)
					}
					if isOn && 0 < p && p < base {
						behind++
					}
				}
			}
		}
	}
	want(t, "there are runners who lag behind", behind > 120, true)
}

// TestExtrasHelp expects that extras never make a run unearned.
func TestExtrasHelp(t *testing.T) {
	g := newGenerator(4)
	more := 0
	for range 120 {
		h := g.half(16, misplays)
		runners, _ := earned.Runners(h)
		for from := range h.Plays {
			without := earnedFrom(t, h, from)
			doubts, _ := earned.Doubts(h, from)
			for _, extras := range [][]earned.Extra{nil, doubts, g.extras(h, len(runners))} {
				with, e := earned.Reckon(h, from, extras)
				want(t, "the error of Reckon", e, api.OK)
				for _, n := range without {
					want(t, "what is earned stays so with extras", slices.Contains(with, n), true)
				}
				if len(extras) == 0 {
					want(t, "Reckon without extras", with, without)
				}
				more += len(with) - len(without)
			}
		}
	}
	want(t, "extras make runs earned", more > 40, true)
}

// TestLaterPlaysHelp expects that what is earned from a play is so from each later one, and what follows for pitchers.
func TestLaterPlaysHelp(t *testing.T) {
	g := newGenerator(5)
	more := 0
	for range 200 {
		h := g.half(16, "life error life passed")
		for from := range h.Plays {
			later := earnedFrom(t, h, from+1)
			for _, n := range earnedFrom(t, h, from) {
				want(t, "what is earned from a later play", slices.Contains(later, n), isThere(t, h, n, from+1))
			}
		}
		lines, _ := earned.Lines(h)
		team, _ := earned.Team(h)
		runs, _ := earned.Runs(h)
		all, sum := 0, 0
		for _, l := range lines {
			all, sum = all+l.Runs, sum+l.Earned
			want(t, "a pitcher has at most as many earned runs as runs", l.Earned <= l.Runs && l.Scored <= l.Inherited, true)
		}
		want(t, "as many lines as pitchers", len(lines), 1+len(h.Relief))
		want(t, "the runs of the side", []int{all, team.Runs}, []int{len(runs), len(runs)})
		want(t, "the earned runs", team.Earned <= sum && sum <= all, true)
		want(t, "the earned runs of the side", team.Earned, len(earnedFrom(t, h, 0)))
		more += sum - team.Earned
	}
	want(t, "pitchers have more earned runs than the side", more > 10, true)
}

// TestCertificates expects that each certificate can be checked against the reconstruction, and no other one.
func TestCertificates(t *testing.T) {
	g := newGenerator(6)
	for range 60 {
		h := g.half(14, misplays)
		runs, _ := earned.Runs(h)
		for from := range h.Plays {
			places, _ := earned.Places(h, from)
			outs, _ := earned.Outs(h, from)
			for _, n := range runs {
				c, e := earned.Certify(h, from, n)
				want(t, "the error of Certify", e, api.OK)
				want(t, "a certificate is right", earned.CheckCertificate(h, from, c), api.OK)
				want(t, "a certificate is that of Earned", c.Earned, slices.Contains(earnedFrom(t, h, from), n))
				if c.Earned {
					want(t, "he is home after the play", places[c.Play-from][n-1], 4)
				} else if isThere(t, h, n, from) {
					want(t, "the outs are those of the reconstruction", slices.Equal(c.Outs, outs), true)
				}
				c.Earned = !c.Earned
				want(t, "the opposite is wrong", earned.CheckCertificate(h, from, c), api.ErrProof)
				c.Earned = !c.Earned
				c.Play++
				want(t, "another play is wrong", earned.CheckCertificate(h, from, c), api.ErrProof)
			}
		}
	}
}

// TestSplitGames expects that the halves of a game together have its plays, its runs, and its judgments.
func TestSplitGames(t *testing.T) {
	g := newGenerator(7)
	for range 40 {
		var plays []api.Play
		s := rule.Start()
		for len(plays) < 60 && !s.Over {
			p := g.play(s)
			if next, _, e := rule.Apply(s, p); e == api.OK {
				plays, s = append(plays, p), next
			}
		}
		l, relief := g.judgments(plays, misplays+" "+others), g.relief(len(plays))
		halves, e := earned.Split(plays, l, relief)
		want(t, "the error of Split", e, api.OK)
		parts, _ := rule.Halves(plays)
		want(t, "as many halves", len(halves), len(parts))
		var all []api.Play
		var judgments []api.Judgment
		var entries []int
		for i, h := range halves {
			want(t, "a half is one", earned.CheckHalf(h), api.OK)
			runs, _ := earned.Runs(h)
			want(t, "the runs of a half", len(runs), parts[i].Runs)
			runners, _ := earned.Runners(h)
			want(t, "the turns of a half", len(runners), parts[i].Turns)
			for _, j := range h.Judgments {
				j.Play += len(all)
				judgments = append(judgments, j)
			}
			for _, at := range h.Relief {
				entries = append(entries, at+len(all))
			}
			all = append(all, h.Plays...)
		}
		text, _ := play.PrintAll(all)
		wanted, _ := play.PrintAll(plays)
		want(t, "the plays of all halves", text, wanted)
		want(t, "the judgments of all halves", judgments, l)
		want(t, "the relief of all halves", entries, slices.DeleteFunc(relief, func(at int) bool {
			return slices.ContainsFunc(parts, func(part rule.Half) bool { return part.From == at })
		}))
	}
}
