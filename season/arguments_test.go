package season_test

import (
	"math"
	"math/rand"
	"slices"
	"strings"
	"testing"

	"dugout/api"
	"dugout/season"
)

// chaos draws arguments most of which are not well-formed.
type chaos struct {
	generator
}

func (c chaos) one(rate int) bool {
	return c.random.Intn(rate) == 0
}

func (c chaos) number() int {
	numbers := []int{0, 0, 0, 1, 1, 2, 3, 5, 60, 64, 65, 256, 257, 999, 1000, 99999, 100000, 999999999, 1000000000, -1, -2, math.MaxInt, math.MinInt}
	return numbers[c.random.Intn(len(numbers))]
}

func (c chaos) name() string {
	names := []string{"", "a", "ann", "bob", "cats", "g1", "7", "\xff", "a b", strings.Repeat("a", 30)}
	return names[c.random.Intn(len(names))]
}

func (c chaos) kind() string {
	return append([]string{"", "x"}, kindList...)[c.random.Intn(14)]
}

// list draws a short list.
func list[T any](c chaos, draw func() T) []T {
	l := make([]T, c.random.Intn(4))
	for i := range l {
		l[i] = draw()
	}
	return l
}

func (c chaos) counts() [season.MaxKinds]int {
	var n [season.MaxKinds]int
	for kind := range n {
		n[kind] = c.random.Intn(3)
	}
	if c.one(3) {
		n[c.random.Intn(season.MaxKinds)] = c.number()
	}
	return n
}

func (c chaos) line() season.Line {
	return season.Line{Player: c.name(), Team: c.name(), Counts: c.counts()}
}

// wild draws a game, which is often none.
func (c chaos) wild() season.Game {
	x := c.game([]string{"g1", "g2", "g3"}[c.random.Intn(3)])
	x.Version = c.random.Intn(4)
	if c.one(5) {
		x.Lines = list(c, c.line)
	}
	switch c.random.Intn(12) {
	case 0:
		x.Name = c.name()
	case 1:
		x.Version = c.number()
	case 2:
		x.Day = c.number()
	case 3:
		x.Teams[c.random.Intn(2)] = c.name()
	case 4:
		x.Score[c.random.Intn(2)] = c.number()
	}
	return x
}

func (c chaos) wildBook() season.Book {
	switch c.random.Intn(4) {
	case 0:
		return season.Book{Games: list(c, c.wild)}
	case 1:
		return both()
	}
	return c.book(5)
}

func (c chaos) total() season.Total {
	x := season.Total{Player: c.name(), Games: c.random.Intn(3), Counts: c.counts()}
	if c.one(5) {
		x.Games = c.number()
	}
	return x
}

func (c chaos) totals() []season.Total {
	l := list(c, c.total)
	if c.one(2) {
		slices.SortFunc(l, func(a, b season.Total) int { return strings.Compare(a.Player, b.Player) })
	}
	return l
}

func (c chaos) streak() season.Streak {
	if c.one(3) {
		return streak(c.number(), c.number(), c.number(), c.number())
	}
	return streak(c.random.Intn(4), c.random.Intn(3), c.random.Intn(3), c.random.Intn(3))
}

func (c chaos) standing() season.Standing {
	if c.one(2) {
		return season.Standing{Team: "a", Won: c.random.Intn(9), Lost: c.random.Intn(9)}
	}
	return season.Standing{Team: c.name(), Won: c.number(), Lost: c.number(), Tied: c.number(), For: c.number(), Against: c.number()}
}

func (c chaos) text() string {
	parts := []string{head, head, "g 1 5 a", "x a" + zeros, "y b" + zeros, "z c" + zeros, " ", "0", "-1", "\n", "\xff"}
	var text strings.Builder
	for range c.random.Intn(5) {
		text.WriteString(parts[c.random.Intn(len(parts))])
	}
	return text.String()
}

// TestNothingPanics expects every function to return, and nothing beside an error.
func TestNothingPanics(t *testing.T) {
	c := chaos{generator{rand.New(rand.NewSource(9))}}
	seen := map[api.Errno]int{}
	expect := func(what string, e api.Errno, isNothing bool) {
		t.Helper()
		seen[e]++
		if e != api.OK && !isNothing {
			t.Errorf("%s: a result beside the error %d", what, e)
		}
	}
	for range 5000 {
		g, b := c.wild(), c.wildBook()
		x, e := season.Put(b, g)
		expect("Put", e, len(x.Games) == 0)
		x, e = season.Replace(b, g)
		expect("Replace", e, len(x.Games) == 0)
		x, e = season.Remove(b, c.name())
		expect("Remove", e, len(x.Games) == 0)
		x, e = season.Merge(b, c.wildBook())
		expect("Merge", e, len(x.Games) == 0)
		x, e = season.Between(b, c.number(), c.number())
		expect("Between", e, len(x.Games) == 0)
		l, e := season.Totals(b)
		expect("Totals", e, len(l) == 0)
		want(t, "CheckBook and Totals agree", season.CheckBook(b), e)
		l, e = season.Difference(b.Games, list(c, c.wild))
		expect("Difference", e, len(l) == 0)
		l, e = season.Update(c.totals(), c.totals())
		expect("Update", e, len(l) == 0)
		r, e := season.Average(c.total(), c.kind(), c.kind())
		expect("Average", e, r == api.Ratio{})
		leaders, e := season.Leaders(c.totals(), c.kind(), c.kind(), c.number(), c.number())
		expect("Leaders", e, len(leaders) == 0)
		s, e := season.Join(c.streak(), c.streak())
		expect("Join", e, s == season.Streak{})
		s, e = season.StreakIn(b, c.name(), c.kind())
		expect("StreakIn", e, s == season.Streak{})
		standings, e := season.Standings(b)
		expect("Standings", e, len(standings) == 0)
		n, e := season.Behind(c.standing(), c.standing())
		expect("Behind", e, n == 0)
		text, e := season.Print(g)
		expect("Print", e, text == "")
		want(t, "CheckGame and Print agree", season.CheckGame(g), e)
		y, at, e := season.Parse(c.text())
		expect("Parse", e, isNoGame(y))
		want(t, "an index of Parse without an error", e == api.OK && at != 0, false)
	}
	for _, e := range []api.Errno{api.OK, api.ErrRange, api.ErrZero, api.ErrName, api.ErrTwice, api.ErrUnknown, api.ErrOrder, api.ErrKind, api.ErrForm, api.ErrSyntax, api.ErrVersion} {
		want(t, "an error was drawn", []any{e, seen[e] > 0}, []any{e, true})
	}
}

// arguments are arguments of all functions.
type arguments struct {
	book, other season.Book
	game        season.Game
	totals      []season.Total
	list        []bool
}

// roomy returns arguments with room behind each of their lists.
func roomy() arguments {
	a := arguments{both(), book(gameG2()), game("h 1 5 a b 0 1", "al a", "bo b"), totals("ann 0 h 1", "cy 2 ab 3"), yes("yny")}
	a.book.Games = append(make([]season.Game, 0, 32), a.book.Games...)
	a.book.Games[0].Lines = append(make([]season.Line, 0, 32), a.book.Games[0].Lines...)
	a.other.Games = append(make([]season.Game, 0, 32), a.other.Games...)
	a.game.Lines = append(make([]season.Line, 0, 32), a.game.Lines...)
	a.totals = append(make([]season.Total, 0, 32), a.totals...)
	a.list = append(make([]bool, 0, 32), a.list...)
	return a
}

// call returns the results of all functions that have lists.
func (a arguments) call() []any {
	var results []any
	keep := func(x any, e api.Errno) { results = append(results, x, e) }
	x, e := season.Put(a.book, a.game)
	keep(x, e)
	x, e = season.Replace(a.book, a.other.Games[0])
	keep(x, e)
	x, e = season.Remove(a.book, "g1")
	keep(x, e)
	x, e = season.Remove(a.book, "g2")
	keep(x, e)
	x, e = season.Merge(a.book, a.other)
	keep(x, e)
	x, e = season.Merge(a.other, a.book)
	keep(x, e)
	x, e = season.Merge(a.book, season.Book{})
	keep(x, e)
	x, e = season.Between(a.book, 0, 9)
	keep(x, e)
	l, e := season.Totals(a.book)
	keep(l, e)
	l, e = season.Difference(a.book.Games, a.other.Games)
	keep(l, e)
	l, e = season.Update(a.totals, a.totals)
	keep(l, e)
	l, e = season.Update(a.totals, nil)
	keep(l, e)
	leaders, e := season.Leaders(a.totals, "h", "ab", 0, 9)
	keep(leaders, e)
	s, e := season.StreakOf(a.list)
	keep(s, e)
	s, e = season.StreakIn(a.book, "ann", "h")
	keep(s, e)
	standings, e := season.Standings(a.book)
	keep(standings, e)
	text, e := season.Print(a.game)
	keep(text, e)
	return results
}

// spoil changes all memory of the arguments.
func (a arguments) spoil() {
	for _, b := range []season.Book{a.book, a.other} {
		for _, g := range b.Games {
			clear(g.Lines)
		}
		clear(b.Games[:cap(b.Games)])
	}
	clear(a.game.Lines)
	clear(a.totals)
	clear(a.list)
}

// behind returns what is behind the elements of a list.
func behind[T any](l []T) []T {
	return l[len(l):cap(l)]
}

// TestArgumentsStay expects no argument to be changed, nor kept.
func TestArgumentsStay(t *testing.T) {
	a := roomy()
	before := a.call()
	want(t, "the arguments", a, roomy())
	want(t, "what is behind the games", behind(a.book.Games), make([]season.Game, 30))
	want(t, "what is behind the other games", behind(a.other.Games), make([]season.Game, 31))
	want(t, "what is behind the lines of a book", behind(a.book.Games[0].Lines), make([]season.Line, 30))
	want(t, "what is behind the lines", behind(a.game.Lines), make([]season.Line, 30))
	want(t, "what is behind the totals", behind(a.totals), make([]season.Total, 30))
	want(t, "what is behind the list", behind(a.list), make([]bool, 29))
	again := roomy().call()
	a.spoil()
	want(t, "results that are kept", before, again)
}

// TestResultsShareNothing expects that a result that is changed does not reach into another one, nor into an argument.
func TestResultsShareNothing(t *testing.T) {
	b := both()
	spoil := func(x season.Book, e api.Errno) {
		t.Helper()
		want(t, "the error", e, api.OK)
		for _, g := range x.Games {
			clear(g.Lines)
		}
		clear(x.Games)
		wantBook(t, "the argument", b, both())
	}
	spoil(season.Put(b, game("h 1 9 a b 0 1")))
	spoil(season.Replace(b, gameG2()))
	spoil(season.Remove(b, "g2"))
	spoil(season.Merge(b, b))
	spoil(season.Merge(b, season.Book{}))
	spoil(season.Between(b, 0, 9))
	x := gameG()
	put, _ := season.Put(season.Book{}, x)
	clear(put.Games[0].Lines)
	wantGame(t, "the game that is put", x, gameG())
	text, _ := season.Print(x)
	one, _, _ := season.Parse(text)
	clear(one.Lines)
	two, _, _ := season.Parse(text)
	wantGame(t, "what is parsed twice", two, x)
}
