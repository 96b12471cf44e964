package season

import (
	"slices"

	"dugout/api"
)

// CheckGame returns the first error of a game, or OK.
func CheckGame(g Game) api.Errno {
	return first(
		checkNames(g.Name),
		checkRange(1, api.MaxNumber, g.Version),
		checkRange(0, MaxDay, g.Day),
		checkNames(g.Teams[:]...),
		checkOpponents(g.Teams),
		checkRange(0, MaxScore, g.Score[:]...),
		checkLines(g),
	)
}

func checkOpponents(teams [2]string) api.Errno {
	if teams[0] == teams[1] {
		return api.ErrTwice
	}
	return api.OK
}

func checkLines(g Game) api.Errno {
	if len(g.Lines) > MaxLines {
		return api.ErrMany
	}
	for i, l := range g.Lines {
		e := first(
			checkNames(l.Player),
			checkTeam(g, l.Team),
			checkRange(0, MaxCount, l.Counts[:]...),
			checkLineOrder(g.Lines[:i], l),
		)
		if e != api.OK {
			return e
		}
	}
	return api.OK
}

func checkTeam(g Game, team string) api.Errno {
	if !slices.Contains(g.Teams[:], team) {
		return api.ErrUnknown
	}
	return api.OK
}

// checkLineOrder returns ErrOrder if a line does not come after the last one of those before it.
func checkLineOrder(before []Line, l Line) api.Errno {
	if n := len(before); n > 0 && before[n-1].Player >= l.Player {
		return api.ErrOrder
	}
	return api.OK
}

// CheckBook returns the first error of a book, or OK.
func CheckBook(b Book) api.Errno {
	if len(b.Games) > api.MaxGames {
		return api.ErrMany
	}
	for i, g := range b.Games {
		before := Book{b.Games[:i]}
		if e := first(CheckGame(g), before.checkNew(g.Name), before.checkLater(g)); e != api.OK {
			return e
		}
	}
	return api.OK
}

// checkNew returns ErrTwice if a book has a game with a name.
func (b Book) checkNew(name string) api.Errno {
	if b.find(name) >= 0 {
		return api.ErrTwice
	}
	return api.OK
}

// checkLater returns ErrOrder if a game does not come after the last one of a book.
func (b Book) checkLater(g Game) api.Errno {
	if n := len(b.Games); n > 0 && b.Games[n-1].compare(g) >= 0 {
		return api.ErrOrder
	}
	return api.OK
}

// checkGames returns the first error of games that need not be a book.
func checkGames(l []Game) api.Errno {
	if len(l) > api.MaxGames {
		return api.ErrMany
	}
	return first(transform(l, CheckGame)...)
}
