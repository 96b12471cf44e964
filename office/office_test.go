package office_test

import (
	"reflect"
	"slices"
	"strconv"
	"strings"
	"testing"

	"dugout/api"
	"dugout/office"
	"dugout/play"
)

// want reports a result that is not the expected one; nil and empty lists are equal.
func want(t *testing.T, what string, got, wanted any) {
	t.Helper()
	if !alike(reflect.ValueOf(got), reflect.ValueOf(wanted)) {
		t.Errorf("%s: got %+v, want %+v", what, got, wanted)
	}
}

// alike reports whether two values are equal, where nil and empty lists are.
func alike(a, b reflect.Value) bool {
	if !a.IsValid() || !b.IsValid() || a.Type() != b.Type() {
		return !a.IsValid() && !b.IsValid()
	}
	switch a.Kind() {
	case reflect.Slice, reflect.Array:
		for i := range min(a.Len(), b.Len()) {
			if !alike(a.Index(i), b.Index(i)) {
				return false
			}
		}
		return a.Len() == b.Len()
	case reflect.Struct:
		for i := range a.NumField() {
			if !alike(a.Field(i), b.Field(i)) {
				return false
			}
		}
		return true
	case reflect.Interface:
		return alike(a.Elem(), b.Elem())
	}
	return a.Equal(b)
}

// shapes are the numbers of names and values of the kinds of events.
var shapes = map[string][2]int{"open": {3, 1}, "play": {1, 1}, "change": {1, 2}, "drop": {1, 1}, "judge": {2, 5}, "reverse": {2, 5}, "close": {1, 1}, "undo": {0, 0}}

// kindList are the kinds of events.
var kindList = strings.Split("open play change drop judge reverse close undo", " ")

// number returns the integer with a string.
func number(s string) int {
	n, err := strconv.Atoi(s)
	if err != nil {
		panic("no integer: " + s)
	}
	return n
}

// event returns the event with a number and with the rest of its body.
func event(n int, line string) api.Event {
	words := strings.Split(line, " ")
	shape, known := shapes[words[0]]
	if !known {
		panic("no kind: " + words[0])
	}
	values, text := 1+shape[0], 1+shape[0]+shape[1]
	e := api.Event{Number: n, Kind: words[0], Names: slices.Clone(words[1:values]), Text: strings.Join(words[text:], " ")}
	for _, word := range words[values:text] {
		e.Values = append(e.Values, number(word))
	}
	return e
}

// journal returns the events with the rests of their bodies, numbered from 1 on.
func journal(lines ...string) []api.Event {
	var l []api.Event
	for i, line := range lines {
		l = append(l, event(i+1, line))
	}
	return l
}

// followed returns a list with a further element.
func followed[T any](l []T, x ...T) []T {
	return slices.Concat(l, x)
}

// repeated returns the same line so many times.
func repeated(line string, n int) []string {
	return slices.Repeat([]string{line}, n)
}

// exampleLines are the events 1 to 6 of the examples of the chapter.
var exampleLines = []string{
	"open g v h 1",
	"play g 1 X X 0-1b:6",
	"play g 1 C - 1-2p",
	"play g 2 X X 2-4b:82 0-2t:82",
	"judge g life 2 0 0 0 6",
	"drop g 3",
}

// example returns the first events of the examples, and further ones.
func example(n int, lines ...string) []api.Event {
	return journal(followed(exampleLines[:n], lines...)...)
}

const (
	strikeout = "CCC K 0x1k:2"
	homer     = "X X 0-4b"
)

// wholeLines are the events of a game that is over: w, of x and y, with a run in the first half.
func wholeLines() []string {
	return slices.Concat([]string{"open w x y 5", "play w 5 " + homer}, repeated("play w 5 "+strikeout, 54))
}

// plays returns the plays with strings.
func plays(list ...string) []api.Play {
	l, at, e := play.ParseAll(strings.Join(followed(list, ""), "\n"))
	if e != api.OK {
		panic("no play: " + list[at])
	}
	return l
}

// life is the judgment of the examples.
var life = api.Judgment{Play: 0, From: 0, Kind: "life", Fielder: 6, Rule: 2}

// exampleGame returns the game of the first example, up to a number of plays.
func exampleGame(n int, judgments ...api.Judgment) office.Game {
	all := plays("X X 0-1b:6", "C - 1-2p", "X X 2-4b:82 0-2t:82")
	return office.Game{Name: "g", Sides: [2]string{"v", "h"}, Plays: all[:n], Judgments: judgments}
}

// inVersion returns a game in a version.
func inVersion(n int, g office.Game) office.Game {
	g.Version = n
	return g
}

// register returns the register of a day with some games.
func register(day int, games ...office.Game) office.Register {
	return office.Register{Day: day, Games: games}
}

// wantRegister expects events to result in a register.
func wantRegister(t *testing.T, what string, l []api.Event, wanted office.Register) {
	t.Helper()
	r, n, e := office.Replay(l)
	want(t, "Replay: "+what, []any{r, n, e}, []any{wanted, 0, api.OK})
}
