package office

import (
	"slices"

	"dugout/api"
	"dugout/judge"
	"dugout/play"
	"dugout/rule"
)

// onRegister returns the effect of an event that makes a register of the one before it.
func onRegister(change func(Register, api.Event) (Register, api.Errno)) func(*history, api.Event) api.Errno {
	return func(h *history, e api.Event) api.Errno {
		before, day := h.register(), e.Values[0]
		if day < before.Day {
			return api.ErrState
		}
		after, err := change(before, e)
		if err != api.OK {
			return err
		}
		after.Day = day
		h.steps = append(h.steps, step{e.Kind, after})
		return api.OK
	}
}

// onGame returns the effect of an event that changes a game, which must not be closed.
func onGame(change func(Game, api.Event) (Game, api.Errno)) func(*history, api.Event) api.Errno {
	return onRegister(func(r Register, e api.Event) (Register, api.Errno) {
		at := r.find(e.Names[0])
		switch {
		case at < 0:
			return Register{}, api.ErrUnknown
		case r.Games[at].Closed:
			return Register{}, api.ErrOver
		}
		g, err := change(r.Games[at], e)
		if err != api.OK {
			return Register{}, err
		}
		r.Games = changed(r.Games, func(l []Game) []Game {
			l[at] = g
			return l
		})
		return r, api.OK
	})
}

// onJudgments returns the change of a game that sets or reverses a judgment.
func onJudgments(act func([]api.Play, []api.Judgment, api.Judgment) ([]api.Judgment, api.Errno)) func(Game, api.Event) (Game, api.Errno) {
	return func(g Game, e api.Event) (Game, api.Errno) {
		l, err := act(g.Plays, g.Judgments, judgmentOf(e))
		g.Judgments = l
		return g, err
	}
}

// find returns the index of the game with a name, or -1.
func (r Register) find(name string) int {
	found := -1
search:
	for i, g := range r.Games {
		switch g.Name {
		case name:
			found = i
			break search
		}
	}
	return found
}

func open(r Register, e api.Event) (Register, api.Errno) {
	g := Game{Name: e.Names[0], Sides: [2]string(e.Names[1:])}
	switch {
	case r.find(g.Name) >= 0:
		return Register{}, api.ErrTwice
	case len(r.Games) >= api.MaxGames:
		return Register{}, api.ErrMany
	case g.Sides[0] == g.Sides[1]:
		return Register{}, api.ErrConflict
	}
	r.Games = changed(r.Games, func(l []Game) []Game { return append(l, g) })
	return r, api.OK
}

func addPlay(g Game, e api.Event) (Game, api.Errno) {
	g.Plays = changed(g.Plays, func(l []api.Play) []api.Play { return append(l, playOf(e)) })
	return g, checkPlays(g.Plays)
}

func changePlay(g Game, e api.Event) (Game, api.Errno) {
	at := e.Values[1]
	if at >= len(g.Plays) {
		return Game{}, api.ErrNone
	}
	g.Plays = changed(g.Plays, func(l []api.Play) []api.Play {
		l[at] = playOf(e)
		return l
	})
	g.Version++
	return g, first(checkPlays(g.Plays), g.checkJudgments())
}

func dropPlay(g Game, _ api.Event) (Game, api.Errno) {
	last := len(g.Plays) - 1
	switch {
	case last < 0:
		return Game{}, api.ErrEmpty
	case len(judge.Of(g.Judgments, last)) > 0:
		return Game{}, api.ErrConflict
	}
	g.Plays = changed(g.Plays, func(l []api.Play) []api.Play { return slices.Delete(l, last, last+1) })
	g.Version++
	return g, api.OK
}

func closeGame(g Game, _ api.Event) (Game, api.Errno) {
	if s, _, _, _ := rule.Final(g.Plays); !s.Over {
		return Game{}, api.ErrState
	}
	g.Closed = true
	return g, api.OK
}

// playOf returns the play of an event, whose text is one.
func playOf(e api.Event) api.Play {
	p, _, _ := play.Parse(e.Text)
	return p
}

// judgmentOf returns the judgment of an event; its rule is 0 if its kind is none.
func judgmentOf(e api.Event) api.Judgment {
	name, v := e.Names[1], e.Values
	number, _ := judge.Rule(name)
	return api.Judgment{Play: v[1], From: v[2], Kind: name, Base: v[3], Fielder: v[4], Rule: number}
}

func checkPlays(l []api.Play) api.Errno {
	_, _, _, err := rule.Replay(l)
	return err
}

// checkJudgments returns ErrConflict if the judgments of a game are none of its plays.
func (g Game) checkJudgments() api.Errno {
	if _, err := judge.CheckJudgments(g.Plays, g.Judgments); err != api.OK {
		return api.ErrConflict
	}
	return api.OK
}
