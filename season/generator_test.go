package season_test

import (
	"math/rand"
	"slices"
	"strconv"

	"dugout/season"
)

// generator draws games and books, always the same ones.
type generator struct {
	random *rand.Rand
}

func newGenerator(seed int64) generator {
	return generator{rand.New(rand.NewSource(seed))}
}

// game draws a game with a name; its numbers are small, so that many of them are equal.
func (g generator) game(name string) season.Game {
	teams := []string{"ants", "bats", "cats", "dogs", "Eels"}
	order := g.random.Perm(len(teams))
	x := season.Game{
		Name:    name,
		Version: 1 + g.random.Intn(3),
		Day:     g.random.Intn(12),
		Teams:   [2]string{teams[order[0]], teams[order[1]]},
		Score:   [2]int{g.random.Intn(4), g.random.Intn(4)},
	}
	for _, player := range []string{"Jo", "ann", "bob", "bo_", "cy", "dan"} {
		if g.random.Intn(2) == 0 {
			l := season.Line{Player: player, Team: x.Teams[g.random.Intn(2)]}
			for kind := range l.Counts {
				l.Counts[kind] = max(0, g.random.Intn(5)-2)
			}
			x.Lines = append(x.Lines, l)
		}
	}
	slices.SortFunc(x.Lines, func(a, b season.Line) int {
		if a.Player < b.Player {
			return -1
		}
		return 1
	})
	return x
}

// games draws up to so many games with different names.
func (g generator) games(most int) []season.Game {
	var l []season.Game
	for _, i := range g.random.Perm(most) {
		if g.random.Intn(3) > 0 {
			l = append(l, g.game("g"+strconv.Itoa(i)))
		}
	}
	return l
}

// book draws a book of up to so many games.
func (g generator) book(most int) season.Book {
	return ordered(g.games(most))
}

// ordered returns the book of some games.
func ordered(l []season.Game) season.Book {
	games := slices.Clone(l)
	slices.SortFunc(games, func(a, b season.Game) int {
		if a.Day < b.Day || a.Day == b.Day && a.Name < b.Name {
			return -1
		}
		return 1
	})
	return season.Book{Games: games}
}
