package season_test

import (
	"testing"

	"dugout/api"
	"dugout/season"
)

func TestStandings(t *testing.T) {
	for what, row := range map[string]struct {
		book      season.Book
		standings []season.Standing
	}{
		"nothing":            {season.Book{}, nil},
		"the home side wins": {book(game("g 1 1 a b 2 5")), standings("b 1 0 0 5 2", "a 0 1 0 2 5")},
		"the visitors win":   {book(game("g 1 1 b a 5 2")), standings("b 1 0 0 5 2", "a 0 1 0 2 5")},
		"a tie":              {book(game("g 1 1 b a 4 4")), standings("a 0 0 1 4 4", "b 0 0 1 4 4")},
		"no runs":            {book(game("g 1 1 b B 0 0")), standings("B 0 0 1 0 0", "b 0 0 1 0 0")},
		"lines do not count": {book(game("g 1 1 b a 5 2", "ann a r 999")), standings("b 1 0 0 5 2", "a 0 1 0 2 5")},
		"by quotients": {
			book(game("g1 1 1 a b 1 0"), game("g2 1 2 a b 0 9"), game("g3 1 3 a c 1 0"), game("g4 1 4 b c 3 3")),
			standings("a 2 1 0 2 9", "b 1 1 1 12 4", "c 0 1 1 3 4"),
		},
		"ties leave the quotient": {
			book(game("g1 1 1 a b 1 0"), game("g2 1 1 c a 1 0"), game("g3 1 3 d b 1 0"), game("g4 1 4 d b 0 0"), game("g5 1 5 d a 2 2"), game("g6 1 6 e f 9 9")),
			standings("c 1 0 0 1 0", "d 1 0 2 3 2", "a 1 1 1 3 3", "e 0 0 1 9 9", "f 0 0 1 9 9", "b 0 2 1 0 2"),
		},
		"won all games, few or many": {
			book(game("g1 1 1 a b 1 0"), game("g2 1 1 c d 1 0"), game("g3 1 3 c d 1 0")),
			standings("c 2 0 0 2 0", "a 1 0 0 1 0", "b 0 1 0 0 1", "d 0 2 0 0 2"),
		},
		"by differences, then by names": {
			book(game("g1 1 1 e b 12 10"), game("g2 1 1 c d 3 1"), game("g3 1 3 a f 4 1")),
			standings("a 1 0 0 4 1", "c 1 0 0 3 1", "e 1 0 0 12 10", "b 0 1 0 10 12", "d 0 1 0 1 3", "f 0 1 0 1 4"),
		},
		"quotients of the same value": {
			book(game("g1 1 1 a b 1 0"), game("g2 1 1 b a 1 0"), game("g3 1 3 a b 1 0"), game("g4 1 3 b a 3 0"), game("g5 1 3 c d 5 0"), game("g6 1 3 c d 0 4")),
			standings("b 2 2 0 4 2", "c 1 1 0 5 4", "d 1 1 0 4 5", "a 2 2 0 2 4"),
		},
	} {
		l, e := season.Standings(row.book)
		want(t, "the error of Standings: "+what, e, api.OK)
		want(t, "Standings: "+what, l, row.standings)
	}
	var b season.Book
	for _, g := range schedule(0, 64).Games {
		g.Score = [2]int{999, 0}
		b.Games = append(b.Games, g)
	}
	l, _ := season.Standings(b)
	want(t, "Standings of 64 games", l, standings("cats 64 0 0 63936 0", "dogs 0 64 0 0 63936"))
}

func TestBehind(t *testing.T) {
	for _, row := range []struct {
		leader, other string
		n             int
	}{
		{"a 1 0 0 0 0", "b 0 1 0 0 0", 2}, {"b 0 1 0 0 0", "a 1 0 0 0 0", -2}, {"a 5 3 0 0 0", "a 5 3 0 0 0", 0}, {"a 5 3 0 0 0", "b 4 3 0 0 0", 1}, {"a 5 3 0 0 0", "b 5 4 0 0 0", 1}, {"a 5 3 0 0 0", "b 6 4 0 0 0", 0}, {"a 5 3 9 0 0", "b 2 7 1 0 0", 7},
		{"a 0 0 7 100 2", "b 0 0 0 0 0", 0}, {"a 999999999 0 0 0 0", "b 0 999999999 0 0 0", 1999999998}, {"a 0 999999999 999999999 999999999 999999999", "b 999999999 0 0 0 0", -1999999998}, {"a 0 3 0 0 0", "b 0 1 0 0 0", -2}, {"a 3 0 0 0 0", "b 7 0 0 0 0", -4},
	} {
		n, e := season.Behind(standing(row.leader), standing(row.other))
		want(t, row.other+" behind "+row.leader, []any{n, e}, []any{row.n, api.OK})
	}
}

func TestBehindErrors(t *testing.T) {
	right := standing("a 1 0 0 0 0")
	// Each change of a standing makes one of its numbers wrong.
	changes := []func(*season.Standing, int){
		func(s *season.Standing, n int) { s.Won = n },
		func(s *season.Standing, n int) { s.Lost = n },
		func(s *season.Standing, n int) { s.Tied = n },
		func(s *season.Standing, n int) { s.For = n },
		func(s *season.Standing, n int) { s.Against = n },
	}
	for _, change := range changes {
		for _, n := range beyond(0, most) {
			x := right
			change(&x, n)
			for _, row := range []struct {
				leader, s season.Standing
				err       api.Errno
			}{
				{x, right, api.ErrRange}, {right, x, api.ErrRange}, {x, season.Standing{}, api.ErrRange}, {season.Standing{}, x, api.ErrName},
			} {
				got, e := season.Behind(row.leader, row.s)
				want(t, "Behind with a wrong number", []any{got, e}, []any{0, row.err})
			}
			x.Team = "1"
			got, e := season.Behind(right, x)
			want(t, "Behind with a wrong number of no team", []any{got, e}, []any{0, api.ErrName})
		}
	}
	for _, s := range wrongNames {
		n, e := season.Behind(season.Standing{Team: s}, right)
		want(t, "Behind the team "+s, []any{n, e}, []any{0, api.ErrName})
		n, e = season.Behind(right, season.Standing{Team: s})
		want(t, "Behind of the team "+s, []any{n, e}, []any{0, api.ErrName})
	}
}
