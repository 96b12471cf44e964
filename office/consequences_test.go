package office_test

import (
	"slices"
	"strconv"
	"strings"
	"testing"

	"dugout/api"
	"dugout/credit"
	"dugout/judge"
	"dugout/office"
	"dugout/play"
	"dugout/rule"
)

// numeral returns the string of an integer.
func numeral(n int) string {
	return strconv.Itoa(n)
}

// lineOf returns the line of the console with an event.
func lineOf(e api.Event) string {
	words := append([]string{e.Kind}, e.Names...)
	for _, n := range e.Values {
		words = append(words, numeral(n))
	}
	if e.Text != "" {
		words = append(words, e.Text)
	}
	return strings.Join(words, " ")
}

func TestGamesStayGames(t *testing.T) {
	g := newGenerator(1)
	for range 20 {
		m, _ := g.journal(60)
		for n := range len(m) + 1 {
			r, _, e := office.Replay(m[:n])
			want(t, "Replay", e, api.OK)
			for _, x := range r.Games {
				_, _, _, e := rule.Final(x.Plays)
				want(t, "the plays of a game", e, api.OK)
				at, e := judge.CheckJudgments(x.Plays, x.Judgments)
				want(t, "the judgments of a game", []any{at, e}, []any{-1, api.OK})
			}
		}
	}
}

func TestChangedBack(t *testing.T) {
	g := newGenerator(2)
	changes := 0
	for range 40 {
		m, _ := g.journal(30)
		r, _, _ := office.Replay(m)
		for i, x := range r.Games {
			if x.Closed || len(x.Plays) == 0 {
				continue
			}
			head := "change " + x.Name + " " + numeral(r.Day)
			e := event(len(m)+1, g.change(x, " "+x.Name+" "+numeral(r.Day)))
			if office.Accepts(m, e) != api.OK {
				continue
			}
			changes++
			back := event(len(m)+2, head+" "+numeral(e.Values[1])+" "+textOf(x.Plays[e.Values[1]]))
			after, n, err := office.Replay(append(slices.Clone(m), e, back))
			want(t, "Replay of a change, changed back", []any{n, err}, []any{0, api.OK})
			x.Version += 2
			want(t, "a game that is changed back", after.Games[i], x)
		}
	}
	want(t, "games were changed", changes > 20, true)
}

func TestUndoLeavesTheRegisterBefore(t *testing.T) {
	g := newGenerator(3)
	for range 30 {
		m, all := g.journal(40)
		for _, x := range all {
			if x.err != api.OK || x.event.Kind == "undo" || x.event.Kind == "close" {
				continue
			}
			before, _, _ := office.Replay(m[:x.before])
			after, n, e := office.Replay(append(slices.Clone([]api.Event(m[:x.before])), x.event, event(x.before+2, "undo")))
			want(t, "an event, undone", []any{after, n, e}, []any{before, 0, api.OK})
		}
	}
}

// What was true on a day does not change by events of later days.
func TestLaterDays(t *testing.T) {
	g := newGenerator(4)
	for range 30 {
		m, _ := g.journal(40)
		for n := range len(m) {
			if slices.ContainsFunc(m[n:], func(e api.Event) bool { return e.Kind == "undo" }) {
				continue
			}
			r, _, _ := office.Replay(m[:n])
			for day := range r.Day {
				before, e := office.AsOf(m[:n], day)
				want(t, "AsOf before", e, api.OK)
				after, e := office.AsOf(m, day)
				want(t, "AsOf after", []any{after, e}, []any{before, api.OK})
			}
			now, _ := office.AsOf(m[:n], r.Day)
			want(t, "AsOf the day of a register", now, r)
		}
	}
}

// recoverPlainly returns the events of the records of a log that are whole.
func recoverPlainly(log string) []api.Event {
	var l []api.Event
	for _, line := range strings.SplitAfter(log, "\n") {
		if body, _, found := strings.Cut(line, "#"); found && strings.HasSuffix(line, "\n") {
			_, rest, _ := strings.Cut(body, " ")
			l = append(l, event(len(l)+1, rest))
		}
	}
	return l
}

// A log that is cut off anywhere keeps its whole events.
func TestLogsThatAreCutOff(t *testing.T) {
	g := newGenerator(5)
	for range 10 {
		m, _ := g.journal(25)
		log := ""
		for _, e := range m {
			log, _ = office.Append(log, e)
		}
		for n := range len(log) + 1 {
			kept := recoverPlainly(log[:n])
			length := strings.LastIndex(log[:n], "\n") + 1
			wanted := api.ErrTorn
			if length == n {
				wanted = api.OK
			}
			l, at, e := office.Recover(log[:n])
			want(t, "Recover of a part", []any{l, at, e}, []any{kept, length, wanted})
			s, e := office.Open(log[:n])
			want(t, "Open of a part", e, api.OK)
			want(t, "the log of a part", s.Log(), log[:length])
		}
	}
}

// A log of which a byte is changed is not recovered as a whole, and what stands before is kept.
func TestLogsThatAreChanged(t *testing.T) {
	g := newGenerator(6)
	m, _ := g.journal(12)
	s, _ := office.Open("")
	for _, e := range m {
		s.Do(lineOf(e))
	}
	log := s.Log()
	for at := range len(log) {
		if log[at] == '\n' {
			continue
		}
		start := strings.LastIndex(log[:at], "\n") + 1
		for _, b := range []byte{0, ' ', '#', '0', '1', '9', 'a', log[at] + 1, log[at] - 1, log[at] ^ 128, 255} {
			if b == log[at] || b == '\n' {
				continue
			}
			l, length, e := office.Recover(log[:at] + string([]byte{b}) + log[at+1:])
			want(t, "a changed byte is found", []any{len(l), length, e == api.ErrCheck || e == api.ErrSyntax}, []any{strings.Count(log[:at], "\n"), start, true})
		}
	}
}

// What the console has is what a log of its lines says.
func TestPrintedEventsAreRead(t *testing.T) {
	for i, line := range rightLines {
		lines := append(repeated("undo", i), line)
		log, e := office.Append(logOf(lines[:i]...), event(i+1, line))
		want(t, "Append", e, api.OK)
		l, _, e := office.Recover(log)
		want(t, "what is recovered", []any{l[len(l)-1], e}, []any{event(i+1, line), api.OK})
	}
}

// fates returns the cells of the turns that were completed, as credit.Ways tells them, in their order, without plays and outs.
func fates(t *testing.T, l []api.Play) []office.Cell {
	t.Helper()
	states, _, _, _ := rule.Replay(l)
	ways, e := credit.Ways(l)
	want(t, "the error of Ways", e, api.OK)
	var cells []office.Cell
	for _, w := range ways {
		c := office.Cell{Inning: states[w.Turn].Inning, Side: w.Side, Slot: w.Slot, Fate: w.End}
		for _, step := range w.Steps {
			c.Path = append(c.Path, step.To)
		}
		cells = append(cells, c)
	}
	return cells
}

// outsOf returns for each out its number in its half, by the play and the base from which the runner began.
func outsOf(l []api.Play) map[[2]int]int {
	states, _, _, _ := rule.Replay(l)
	outs := map[[2]int]int{}
	for at, p := range l {
		n := states[at].Outs
		for _, m := range p.Moves {
			if m.Out {
				n++
				outs[[2]int{at, m.From}] = n
			}
		}
	}
	return outs
}

func TestSheetsAndWays(t *testing.T) {
	g := newGenerator(7)
	for range 60 {
		l := g.plays(g.random.Intn(150))
		sheet, e := office.Sheet(l)
		want(t, "the error of Sheet", e, api.OK)
		var completed []office.Cell
		outs := 0
		for _, c := range sheet {
			want(t, "an out and its fate", c.Out > 0, c.Fate == "out")
			outs += min(1, c.Out)
			if c.Fate == "bat" {
				want(t, "a turn that was not completed", []any{len(c.Path), len(c.Plays) > 0}, []any{0, true})
				continue
			}
			c.Plays, c.Out = nil, 0
			completed = append(completed, c)
		}
		want(t, "paths and fates", completed, fates(t, l))
		want(t, "the number of the outs", outs, len(outsOf(l)))
	}
}

// A cell has the out of the runner who came by his path to the base from which he was put out.
func TestOutsOfSheets(t *testing.T) {
	g := newGenerator(8)
	for range 60 {
		l := g.plays(g.random.Intn(150))
		sheet, _ := office.Sheet(l)
		ways, _ := credit.Ways(l)
		outs := outsOf(l)
		at := 0
		for _, c := range sheet {
			if c.Fate == "bat" {
				continue
			}
			w, from := ways[at], 0
			if n := len(w.Steps); n > 0 {
				from = w.Steps[n-1].To
			}
			at++
			if c.Fate == "out" {
				want(t, "the number of an out", c.Out, outs[[2]int{w.Last, from}])
			}
		}
	}
}

func TestSheetsAreRead(t *testing.T) {
	g := newGenerator(9)
	for range 60 {
		l := g.plays(g.random.Intn(200))
		sheet, e := office.Sheet(l)
		want(t, "the error of Sheet", e, api.OK)
		var texts []string
		for _, c := range sheet {
			texts = append(texts, c.Plays...)
		}
		all, _ := play.PrintAll(l)
		want(t, "each play once", strings.Join(append(texts, ""), "\n"), all)
		back, e := office.ReadSheet(sheet)
		want(t, "a sheet that is read", []any{back, e}, []any{l, api.OK})
		for _, fate := range []string{"run", "out", "left", "on", "bat", ""} {
			if n := len(sheet); n > 0 {
				i := g.random.Intn(n)
				before := sheet[i].Fate
				sheet[i].Fate = fate
				_, e := office.ReadSheet(sheet)
				want(t, "a fate that is changed", e == api.OK, fate == before)
				sheet[i].Fate = before
			}
		}
	}
}

// The runs, the outs and those left on base of a sheet are those of the game, half by half.
func TestSumsOfSheets(t *testing.T) {
	g := newGenerator(10)
	for range 60 {
		l := g.plays(g.random.Intn(250))
		sheet, _ := office.Sheet(l)
		halves, _ := rule.Halves(l)
		for _, h := range halves {
			count := map[string]int{}
			var plays []string
			var outs []int
			for _, c := range sheet {
				if c.Inning == h.Inning && c.Side == h.Side {
					count[c.Fate]++
					plays = append(plays, c.Plays...)
					outs = append(outs, c.Out)
				}
			}
			slices.Sort(outs)
			want(t, "the numbers of the outs", outs[len(outs)-h.Outs:], []int{1, 2, 3}[:h.Outs])
			want(t, "runs, outs and those left", []any{count["run"], count["out"], count["left"] + count["on"]}, []any{h.Runs, h.Outs, h.Left})
			want(t, "turns and plays", []any{count["run"] + count["out"] + count["left"] + count["on"], len(plays)}, []any{h.Turns, h.To - h.From})
		}
	}
}
