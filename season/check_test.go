package season_test

import (
	"math"
	"strconv"
	"strings"
	"testing"

	"dugout/api"
	"dugout/season"
)

// wrongNames are strings that are not names.
var wrongNames = []string{"", "1", "_a", "a b", "a-b", "a\n", " a", "\xff", "é", strings.Repeat("a", 25)}

// beyond returns numbers that are just, and far, out of a range.
func beyond(low, high int) []int {
	return []int{low - 1, high + 1, math.MinInt, math.MaxInt}
}

// crowd returns so many lines of the cats.
func crowd(n int) []season.Line {
	var l []season.Line
	for i := range n {
		l = append(l, season.Line{Player: "p" + strconv.Itoa(100+i), Team: "cats"})
	}
	return l
}

// schedule returns so many games, a day each, beginning with a number.
func schedule(from, n int) season.Book {
	var b season.Book
	for i := from; i < from+n; i++ {
		b.Games = append(b.Games, game("s"+strconv.Itoa(1000+i)+" 1 "+strconv.Itoa(i)+" cats dogs 1 0"))
	}
	return b
}

// with returns the game G, changed.
func with(change func(*season.Game)) season.Game {
	g := gameG()
	change(&g)
	return g
}

// wrongGame is a game that is none, with its error.
type wrongGame struct {
	game season.Game
	err  api.Errno
}

// wrongGames returns games that are none. Each of them has errors of all kinds that come behind its own.
func wrongGames() map[string]wrongGame {
	bad := season.Line{Player: "7", Team: "x", Counts: counts("ab", "-1")}
	many := append(crowd(60), bad)
	none := [2]string{"cats", "1"}
	same := [2]string{"cats", "cats"}
	return map[string]wrongGame{
		"no name":               {season.Game{Name: "", Version: 0, Teams: none, Lines: many}, api.ErrName},
		"a name with a blank":   {season.Game{Name: "g 1", Version: 0, Teams: none, Lines: many}, api.ErrName},
		"the version 0":         {season.Game{Name: "g", Version: 0, Teams: none, Lines: many}, api.ErrRange},
		"the day -1":            {season.Game{Name: "g", Version: 1, Day: -1, Teams: none, Lines: many}, api.ErrRange},
		"a team without a name": {season.Game{Name: "g", Version: 1, Teams: none, Score: [2]int{-1, 0}, Lines: many}, api.ErrName},
		"a first team of none":  {season.Game{Name: "g", Version: 1, Teams: [2]string{"", "cats"}, Score: [2]int{-1, 0}, Lines: many}, api.ErrName},
		"two teams of none":     {season.Game{Name: "g", Version: 1, Score: [2]int{-1, 0}, Lines: many}, api.ErrName},
		"a team against itself": {season.Game{Name: "g", Version: 1, Teams: same, Score: [2]int{-1, 0}, Lines: many}, api.ErrTwice},
		"the score -1":          {with(func(g *season.Game) { g.Score[1], g.Lines = -1, many }), api.ErrRange},
		"61 lines":              {with(func(g *season.Game) { g.Lines = append([]season.Line{bad}, crowd(60)...) }), api.ErrMany},
		"a player of none":      {with(func(g *season.Game) { g.Lines[0] = bad }), api.ErrName},
		"a team of none":        {with(func(g *season.Game) { g.Lines[1] = line("ann cat ab -1") }), api.ErrUnknown},
		"an empty team":         {with(func(g *season.Game) { g.Lines[1].Team = "" }), api.ErrUnknown},
		"a count of -1":         {with(func(g *season.Game) { g.Lines[1] = line("ann cats ab -1") }), api.ErrRange},
		"a player twice":        {with(func(g *season.Game) { g.Lines[1] = line("ann dogs ab 1") }), api.ErrOrder},
		"a wrong order":         {with(func(g *season.Game) { g.Lines[1] = line("al cats ab 1") }), api.ErrOrder},
		"capital letters":       {with(func(g *season.Game) { g.Lines[1] = line("Bob cats ab 1") }), api.ErrOrder},
		"the first of two":      {with(func(g *season.Game) { g.Lines = lines("ann cats e 1000", "7 cats ab 1") }), api.ErrRange},
	}
}

func TestCheckGame(t *testing.T) {
	long := strings.Repeat("z", 24)
	for what, g := range map[string]season.Game{
		"the game G":      gameG(),
		"its version 2":   gameG2(),
		"the game H":      gameH(),
		"small numbers":   game("a 1 0 b c 0 0"),
		"great numbers":   game("a 999999999 99999 b c 999 999", "a c ab 999 e 999"),
		"long names":      game(long+" 1 0 "+long+" Y_1 0 0", long+" Y_1"),
		"the same names":  game("a 1 0 a b 0 0", "a a", "b a"),
		"names by bytes":  game("a 1 0 a b 0 0", "B a", "a a", "a0 b", "aB a", "a_ b", "aa b"),
		"60 lines":        with(func(g *season.Game) { g.Lines = crowd(60) }),
		"a team of lines": with(func(g *season.Game) { g.Lines = lines("ann dogs", "bob dogs") }),
	} {
		want(t, "CheckGame: "+what, season.CheckGame(g), api.OK)
	}
	for what, x := range wrongGames() {
		want(t, "CheckGame: "+what, season.CheckGame(x.game), x.err)
	}
}

func TestCheckGameNames(t *testing.T) {
	for _, s := range wrongNames {
		want(t, "the name "+s, season.CheckGame(with(func(g *season.Game) { g.Name = s })), api.ErrName)
		want(t, "the team "+s, season.CheckGame(with(func(g *season.Game) { g.Teams[0] = s })), api.ErrName)
		want(t, "the other team "+s, season.CheckGame(with(func(g *season.Game) { g.Teams[1] = s })), api.ErrName)
		want(t, "the player "+s, season.CheckGame(with(func(g *season.Game) { g.Lines[1].Player = s })), api.ErrName)
		want(t, "the team of a player "+s, season.CheckGame(with(func(g *season.Game) { g.Lines[1].Team = s })), api.ErrUnknown)
	}
}

func TestCheckGameNumbers(t *testing.T) {
	for _, n := range beyond(1, 999999999) {
		want(t, "a wrong version", season.CheckGame(with(func(g *season.Game) { g.Version = n })), api.ErrRange)
	}
	for _, n := range beyond(0, 99999) {
		want(t, "a wrong day", season.CheckGame(with(func(g *season.Game) { g.Day = n })), api.ErrRange)
	}
	for _, n := range beyond(0, 999) {
		for side := range 2 {
			want(t, "a wrong score", season.CheckGame(with(func(g *season.Game) { g.Score[side] = n })), api.ErrRange)
			for kind := range season.MaxKinds {
				want(t, "a wrong count", season.CheckGame(with(func(g *season.Game) { g.Lines[side].Counts[kind] = n })), api.ErrRange)
			}
		}
	}
}

// wrongBook is a book that is none, with its error.
type wrongBook struct {
	book season.Book
	err  api.Errno
}

// wrongBooks returns books that are none. Each of them has errors that come behind its own.
func wrongBooks() map[string]wrongBook {
	l := map[string]wrongBook{
		"65 games":             {season.Book{Games: append([]season.Game{{}}, schedule(0, 64).Games...)}, api.ErrMany},
		"a game twice":         {book(gameG(), gameG(), season.Game{}), api.ErrTwice},
		"a name twice":         {book(gameG(), gameH(), game("g1 1 9 a b 0 0")), api.ErrTwice},
		"an earlier name":      {book(gameH(), game("g1 1 3 a b 0 0")), api.ErrOrder},
		"a name twice, before": {book(gameG(), game("g1 1 3 a b 0 0")), api.ErrTwice},
		"a day before":         {book(gameG(), game("g2 1 4 a b 0 0"), gameG()), api.ErrOrder},
		"a name before":        {book(game("b 1 5 a b 0 0"), game("a 1 5 a b 0 0")), api.ErrOrder},
		"a name by bytes":      {book(game("a 1 5 a b 0 0"), game("B 1 5 a b 0 0")), api.ErrOrder},
		"a longer name":        {book(game("a0 1 5 a b 0 0"), game("a 1 5 a b 0 0")), api.ErrOrder},
		"the first of two":     {book(gameH(), gameG(), season.Game{}), api.ErrOrder},
	}
	for what, x := range wrongGames() {
		l["a game: "+what] = wrongBook{book(gameG(), x.game, gameG()), x.err}
		l["the first game: "+what] = wrongBook{book(x.game, season.Game{}), x.err}
	}
	return l
}

func TestCheckBook(t *testing.T) {
	for what, b := range map[string]season.Book{
		"nothing":           {},
		"a game":            book(gameG2()),
		"two games":         both(),
		"64 games":          schedule(0, 64),
		"names on a day":    book(game("B 1 5 a b 0 0"), game("a 7 5 b a 0 0"), game("a0 1 5 a b 0 0"), game("b 1 5 a c 0 0")),
		"days before names": book(game("z 1 5 a b 0 0"), game("a 1 6 b a 0 0")),
	} {
		want(t, "CheckBook: "+what, season.CheckBook(b), api.OK)
	}
	for what, x := range wrongBooks() {
		want(t, "CheckBook: "+what, season.CheckBook(x.book), x.err)
	}
}

// All functions return the error of a book before that of any other argument.
func TestWrongBooks(t *testing.T) {
	many := season.Book{Games: make([]season.Game, 65)}
	for what, x := range wrongBooks() {
		is := func(name string, isNothing bool, e api.Errno) {
			t.Helper()
			want(t, name+": "+what, []any{isNothing, e}, []any{true, x.err})
		}
		b, e := season.Put(x.book, season.Game{})
		is("Put", len(b.Games) == 0, e)
		b, e = season.Replace(x.book, season.Game{})
		is("Replace", len(b.Games) == 0, e)
		b, e = season.Remove(x.book, "")
		is("Remove", len(b.Games) == 0, e)
		b, e = season.Merge(x.book, many)
		is("Merge", len(b.Games) == 0, e)
		b, e = season.Merge(both(), x.book)
		is("Merge with it", len(b.Games) == 0, e)
		b, e = season.Between(x.book, -1, -2)
		is("Between", len(b.Games) == 0, e)
		l, e := season.Totals(x.book)
		is("Totals", len(l) == 0, e)
		s, e := season.StreakIn(x.book, "", "")
		is("StreakIn", s == season.Streak{}, e)
		all, e := season.Standings(x.book)
		is("Standings", len(all) == 0, e)
	}
}

// All functions return the error of a game before those that come behind.
func TestWrongGames(t *testing.T) {
	for what, x := range wrongGames() {
		x.game.Version = min(x.game.Version, 1)
		b, e := season.Put(schedule(0, 64), x.game)
		want(t, "Put: "+what, []any{len(b.Games), e}, []any{0, x.err})
		b, e = season.Replace(season.Book{}, x.game)
		want(t, "Replace: "+what, []any{len(b.Games), e}, []any{0, x.err})
		s, e := season.Print(x.game)
		want(t, "Print: "+what, []any{s, e}, []any{"", x.err})
		l, e := season.Difference([]season.Game{gameG(), x.game, {}}, make([]season.Game, 65))
		want(t, "Difference before: "+what, []any{len(l), e}, []any{0, x.err})
		l, e = season.Difference([]season.Game{gameG()}, []season.Game{gameG(), x.game, {}})
		want(t, "Difference after: "+what, []any{len(l), e}, []any{0, x.err})
	}
}
