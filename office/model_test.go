package office_test

import (
	"slices"
	"testing"

	"dugout/api"
	"dugout/judge"
	"dugout/office"
	"dugout/play"
	"dugout/rule"
)

// model is a second implementation of registers, by their definition: all events, each of which was accepted.
type model []api.Event

// counting returns the events that count.
func (m model) counting() []api.Event {
	var l []api.Event
	for _, e := range m {
		if e.Kind == "undo" {
			l = l[:len(l)-1]
		} else {
			l = append(l, e)
		}
	}
	return l
}

// registerOf returns the register after events all of which count.
func registerOf(l []api.Event) office.Register {
	var r office.Register
	games := map[string]*office.Game{}
	var names []string
	for _, e := range l {
		r.Day = e.Values[0]
		if e.Kind == "open" {
			names = append(names, e.Names[0])
			games[e.Names[0]] = &office.Game{Name: e.Names[0], Sides: [2]string{e.Names[1], e.Names[2]}}
		}
		apply(games[e.Names[0]], e)
	}
	for _, name := range names {
		r.Games = append(r.Games, *games[name])
	}
	return r
}

// apply changes a game by an event.
func apply(g *office.Game, e api.Event) {
	p, _, _ := play.Parse(e.Text)
	switch e.Kind {
	case "play":
		g.Plays = append(g.Plays, p)
	case "change":
		g.Plays[e.Values[1]] = p
		g.Version++
	case "drop":
		g.Plays = g.Plays[:len(g.Plays)-1]
		g.Version++
	case "judge":
		g.Judgments, _ = judge.Set(g.Plays, g.Judgments, judged(e))
	case "reverse":
		g.Judgments, _ = judge.Reverse(g.Plays, g.Judgments, judged(e))
	case "close":
		g.Closed = true
	}
}

// judged returns the judgment of an event.
func judged(e api.Event) api.Judgment {
	kinds := []string{"", "hit", "life", "error", "choice", "wild", "passed", "steal", "idle", "sacrifice"}
	n := max(0, slices.Index(kinds, e.Names[1]))
	return api.Judgment{Play: e.Values[1], From: e.Values[2], Kind: e.Names[1], Base: e.Values[3], Fielder: e.Values[4], Rule: n}
}

// errorOf returns the error with which an event, which is right by itself, is not accepted.
func (m model) errorOf(e api.Event) api.Errno {
	l := m.counting()
	switch {
	case e.Number != len(m)+1:
		return api.ErrOrder
	case e.Kind == "undo" && len(l) == 0:
		return api.ErrEmpty
	case e.Kind == "undo" && l[len(l)-1].Kind == "close":
		return api.ErrRule
	case e.Kind == "undo":
		return api.OK
	}
	r := registerOf(l)
	at := slices.IndexFunc(r.Games, func(g office.Game) bool { return g.Name == e.Names[0] })
	switch {
	case e.Values[0] < r.Day:
		return api.ErrState
	case e.Kind == "open" && at >= 0:
		return api.ErrTwice
	case e.Kind == "open" && len(r.Games) >= 64:
		return api.ErrMany
	case e.Kind == "open" && e.Names[1] == e.Names[2]:
		return api.ErrConflict
	case e.Kind == "open":
		return api.OK
	case at < 0:
		return api.ErrUnknown
	case r.Games[at].Closed:
		return api.ErrOver
	}
	return errorIn(r.Games[at], e)
}

// errorIn returns the error with which an event is not accepted by a game, which is not closed.
func errorIn(g office.Game, e api.Event) api.Errno {
	p, _, _ := play.Parse(e.Text)
	switch e.Kind {
	case "play":
		_, _, _, err := rule.Replay(append(g.Plays, p))
		return err
	case "change":
		if e.Values[1] >= len(g.Plays) {
			return api.ErrNone
		}
		g.Plays[e.Values[1]] = p
		if _, _, _, err := rule.Replay(g.Plays); err != api.OK {
			return err
		}
		if _, err := judge.CheckJudgments(g.Plays, g.Judgments); err != api.OK {
			return api.ErrConflict
		}
	case "drop":
		if len(g.Plays) == 0 {
			return api.ErrEmpty
		}
		if len(judge.Of(g.Judgments, len(g.Plays)-1)) > 0 {
			return api.ErrConflict
		}
	case "judge":
		_, err := judge.Set(g.Plays, g.Judgments, judged(e))
		return err
	case "reverse":
		_, err := judge.Reverse(g.Plays, g.Judgments, judged(e))
		return err
	case "close":
		if s, _, _, _ := rule.Final(g.Plays); !s.Over {
			return api.ErrState
		}
	}
	return api.OK
}

// asOf returns the register of a day.
func (m model) asOf(day int) office.Register {
	return registerOf(slices.DeleteFunc(m.counting(), func(e api.Event) bool { return e.Values[0] > day }))
}

// target returns one of the games of a register, or one that is none.
func (g *generator) target(r office.Register) office.Game {
	if n := g.random.Intn(len(r.Games) + 1); n < len(r.Games) {
		return r.Games[n]
	} else if len(r.Games) > 0 && g.random.Intn(4) > 0 {
		return r.Games[0]
	}
	return office.Game{Name: g.one("g k z")}
}

// tried is an event that was drawn, with the number of the events that were accepted before it, and its error.
type tried struct {
	before int
	event  api.Event
	err    api.Errno
}

// journal draws events that are accepted, and all that were tried.
func (g *generator) journal(n int) (model, []tried) {
	var m model
	var all []tried
	day := 0
	for len(m) < n {
		r := registerOf(m.counting())
		day = max(0, r.Day+g.random.Intn(8)/6-g.random.Intn(12)/11)
		e := event(len(m)+1-g.random.Intn(40)/39, g.line(g.target(r), day))
		if e.Number == 0 {
			continue
		}
		err := m.errorOf(e)
		all = append(all, tried{len(m), e, err})
		if err == api.OK {
			m = append(m, e)
		}
	}
	return m, all
}

func TestRegistersByTheirDefinition(t *testing.T) {
	g := newGenerator(10)
	seen := map[api.Errno]int{}
	for range 40 {
		m, all := g.journal(40)
		for _, x := range all {
			before := []api.Event(m[:x.before])
			want(t, "Accepts", []any{x, office.Accepts(before, x.event)}, []any{x, x.err})
			r, n, e := office.Replay(append(slices.Clone(before), x.event))
			if x.err != api.OK {
				want(t, "Replay of what is not accepted", []any{r, n, e}, []any{office.Register{}, x.before + 1, x.err})
			} else {
				want(t, "Replay", []any{r, n, e}, []any{registerOf(m[:x.before+1].counting()), 0, api.OK})
			}
			seen[x.err]++
		}
		for day := range registerOf(m.counting()).Day + 2 {
			r, e := office.AsOf(m, day)
			want(t, "AsOf", []any{r, e}, []any{m.asOf(day), api.OK})
		}
	}
	for _, e := range []api.Errno{api.OK, api.ErrOrder, api.ErrEmpty, api.ErrState, api.ErrTwice, api.ErrConflict, api.ErrUnknown, api.ErrRule, api.ErrNone, api.ErrKind, api.ErrJudge} {
		want(t, "an error was drawn", []any{e, seen[e] > 0}, []any{e, true})
	}
}

// What a console says about a game is what the lower layers say of its plays and judgments.
func TestSessionsByTheirDefinition(t *testing.T) {
	g := newGenerator(11)
	for range 30 {
		m, all := g.journal(40)
		s := office.New()
		for _, x := range all {
			if x.event.Number != x.before+1 {
				continue
			}
			result, e := s.Do(lineOf(x.event))
			wanted := ""
			if x.err == api.OK {
				wanted = "done " + numeral(x.event.Number)
			}
			want(t, "Do", []any{x, result, e}, []any{x, wanted, x.err})
		}
		want(t, "Events", s.Events(), []api.Event(m))
		wantAnswers(t, s, registerOf(m.counting()))
		again, e := office.Open(s.Log())
		want(t, "Open", []any{again.Events(), e}, []any{[]api.Event(m), api.OK})
		wantAnswers(t, again, registerOf(m.counting()))
	}
}

func wantAnswers(t *testing.T, s *office.Session, r office.Register) {
	t.Helper()
	names := ""
	for _, g := range r.Games {
		if !g.Closed {
			names += " " + g.Name
		}
		final, _, _, _ := rule.Final(g.Plays)
		state, _ := rule.Print(final)
		last := "none"
		if n := len(g.Plays); n > 0 {
			last = textOf(g.Plays[n-1])
		}
		zero, _ := judge.Errors(g.Plays, g.Judgments, 0)
		one, _ := judge.Errors(g.Plays, g.Judgments, 1)
		missing, _ := judge.Missing(g.Plays, g.Judgments)
		for question, answer := range map[string]string{
			"state": state, "score": numeral(final.Score[0]) + " " + numeral(final.Score[1]), "last": last,
			"errors": numeral(zero[0]) + " " + numeral(one[0]), "version": numeral(g.Version), "missing": numeral(len(missing)),
		} {
			wantResults(t, s, entry{question + " " + g.Name, answer, api.OK})
		}
	}
	if names == "" {
		names = " none"
	}
	wantResults(t, s, entry{"games", names[1:], api.OK})
}
