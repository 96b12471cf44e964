package season_test

import (
	"reflect"
	"slices"
	"strconv"
	"strings"
	"testing"

	"dugout/api"
	"dugout/season"
)

// want reports a result that is not the expected one; nil and empty lists are equal.
func want(t *testing.T, what string, got, wanted any) {
	t.Helper()
	a, b := reflect.ValueOf(got), reflect.ValueOf(wanted)
	if a.Kind() == reflect.Slice && b.Kind() == reflect.Slice && a.Len() == 0 && b.Len() == 0 {
		return
	}
	if !reflect.DeepEqual(got, wanted) {
		t.Errorf("%s: got %v, want %v", what, got, wanted)
	}
}

// wantGame reports a game that is not the expected one.
func wantGame(t *testing.T, what string, got, wanted season.Game) {
	t.Helper()
	want(t, what+", its lines", got.Lines, wanted.Lines)
	got.Lines, wanted.Lines = nil, nil
	want(t, what, got, wanted)
}

// wantBook reports a book that is not the expected one.
func wantBook(t *testing.T, what string, got, wanted season.Book) {
	t.Helper()
	if len(got.Games) != len(wanted.Games) {
		t.Errorf("%s: got %v, want %v", what, got, wanted)
		return
	}
	for i, g := range got.Games {
		wantGame(t, what+", the game "+strconv.Itoa(i), g, wanted.Games[i])
	}
}

// kindList are the kinds of counts, in order.
var kindList = strings.Split("ab h d t hr r rbi w k sb po e", " ")

// number returns the integer with a string.
func number(s string) int {
	n, err := strconv.Atoi(s)
	if err != nil {
		panic("no integer: " + s)
	}
	return n
}

// counts returns counts that are written as kinds, each with its number.
func counts(words ...string) [season.MaxKinds]int {
	var n [season.MaxKinds]int
	for i := 0; i < len(words); i += 2 {
		kind := slices.Index(kindList, words[i])
		if kind < 0 {
			panic("no kind: " + words[i])
		}
		n[kind] = number(words[i+1])
	}
	return n
}

// line returns the line with a string: the player, the team, and then kinds with their counts.
func line(s string) season.Line {
	w := strings.Fields(s)
	return season.Line{Player: w[0], Team: w[1], Counts: counts(w[2:]...)}
}

// lines returns the lines with strings.
func lines(list ...string) []season.Line {
	var l []season.Line
	for _, s := range list {
		l = append(l, line(s))
	}
	return l
}

// game returns the game with the string of its head, and strings of its lines.
func game(head string, list ...string) season.Game {
	w := strings.Fields(head)
	return season.Game{
		Name:    w[0],
		Version: number(w[1]),
		Day:     number(w[2]),
		Teams:   [2]string{w[3], w[4]},
		Score:   [2]int{number(w[5]), number(w[6])},
		Lines:   lines(list...),
	}
}

// book returns the book of some games.
func book(games ...season.Game) season.Book {
	return season.Book{Games: games}
}

// total returns the total with a string: the player, the games, and then kinds with their counts.
func total(s string) season.Total {
	w := strings.Fields(s)
	return season.Total{Player: w[0], Games: number(w[1]), Counts: counts(w[2:]...)}
}

// totals returns the totals with strings.
func totals(list ...string) []season.Total {
	var l []season.Total
	for _, s := range list {
		l = append(l, total(s))
	}
	return l
}

// standing returns the standing with a string: the team, games won, lost and tied, and the runs of both.
func standing(s string) season.Standing {
	w := strings.Fields(s)
	return season.Standing{Team: w[0], Won: number(w[1]), Lost: number(w[2]), Tied: number(w[3]), For: number(w[4]), Against: number(w[5])}
}

// standings returns the standings with strings.
func standings(list ...string) []season.Standing {
	var l []season.Standing
	for _, s := range list {
		l = append(l, standing(s))
	}
	return l
}

// streak returns the streak with these numbers.
func streak(games, first, last, longest int) season.Streak {
	return season.Streak{Games: games, First: first, Last: last, Longest: longest}
}

// yes returns the list of a string whose letters y are games of a kind.
func yes(s string) []bool {
	var l []bool
	for _, letter := range s {
		l = append(l, letter == 'y')
	}
	return l
}

// gameG and gameH return the games of the document's examples, and gameG2 the second version of the first one.
func gameG() season.Game {
	return game("g1 1 5 cats dogs 3 2", "ann cats ab 4 h 2 r 1", "bob dogs ab 3 h 1 hr 1 r 1")
}

func gameG2() season.Game {
	return game("g1 2 5 cats dogs 3 2", "ann cats ab 4 h 3 r 1", "bob dogs ab 3 h 1 hr 1 r 1")
}

func gameH() season.Game {
	return game("g2 1 6 dogs cats 1 1", "ann cats ab 4")
}

// both returns the book of G and H.
func both() season.Book {
	return book(gameG(), gameH())
}

func TestKinds(t *testing.T) {
	want(t, "Kinds", season.Kinds(), kindList)
	clear(season.Kinds())
	want(t, "Kinds again", season.Kinds(), kindList)
}

// The example 1 of the document.
func TestExampleOfLeaders(t *testing.T) {
	l, e := season.Totals(both())
	want(t, "Totals", []any{l, e}, []any{totals("ann 2 ab 8 h 2 r 1", "bob 1 ab 3 h 1 hr 1 r 1"), api.OK})
	ann, e := season.Average(l[0], "h", "ab")
	want(t, "the average of ann", []any{ann, e}, []any{api.Ratio{Num: 1, Den: 4}, api.OK})
	bob, e := season.Average(l[1], "h", "ab")
	want(t, "the average of bob", []any{bob, e}, []any{api.Ratio{Num: 1, Den: 3}, api.OK})
	first, second := season.Leader{Player: "bob", Rate: bob, Place: 1}, season.Leader{Player: "ann", Rate: ann, Place: 2}
	x, e := season.Leaders(l, "h", "ab", 3, 1)
	want(t, "the first leader", []any{x, e}, []any{[]season.Leader{first}, api.OK})
	x, e = season.Leaders(l, "h", "ab", 3, 2)
	want(t, "two leaders", []any{x, e}, []any{[]season.Leader{first, second}, api.OK})
}

// The example 2 of the document.
func TestExampleOfVersions(t *testing.T) {
	d, e := season.Difference([]season.Game{gameG()}, []season.Game{gameG2()})
	want(t, "Difference", []any{d, e}, []any{totals("ann 0 h 1"), api.OK})
	third := gameG2()
	third.Version = 3
	b, e := season.Replace(both(), third)
	want(t, "Replace", []any{len(b.Games), e}, []any{0, api.ErrVersion})
}

// The example 3 of the document.
func TestExampleOfStreaks(t *testing.T) {
	s, e := season.StreakOf(yes("yyny"))
	want(t, "StreakOf", []any{s, e}, []any{streak(4, 2, 1, 2), api.OK})
	one, _ := season.StreakOf(yes("y"))
	s, e = season.Join(s, one)
	want(t, "Join", []any{s, e}, []any{streak(5, 2, 2, 2), api.OK})
	s, e = season.StreakIn(both(), "ann", "h")
	want(t, "StreakIn", []any{s, e}, []any{streak(2, 1, 0, 1), api.OK})
	want(t, "CheckStreak", season.CheckStreak(streak(5, 1, 1, 3)), api.ErrForm)
}

// The examples 4 and 5 of the document.
func TestExamplesOfStandingsAndStrings(t *testing.T) {
	l, e := season.Standings(both())
	want(t, "Standings", []any{l, e}, []any{standings("cats 1 0 1 4 3", "dogs 0 1 1 3 4"), api.OK})
	n, e := season.Behind(l[0], l[1])
	want(t, "Behind", []any{n, e}, []any{2, api.OK})
	s, e := season.Print(gameH())
	want(t, "Print", []any{s, e}, []any{"g2 1 6 dogs cats 1 1\nann cats 4 0 0 0 0 0 0 0 0 0 0 0\n", api.OK})
}
