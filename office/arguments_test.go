package office_test

import (
	"math"
	"math/rand"
	"slices"
	"strings"
	"testing"

	"dugout/api"
	"dugout/office"
)

// chaos draws arguments most of which are not well-formed.
type chaos struct {
	*generator
}

func (c chaos) maybe(rate int) bool {
	return c.random.Intn(rate) == 0
}

func (c chaos) number() int {
	numbers := []int{0, 0, 0, 1, 1, 2, 3, 6, 7, 64, 256, 1000, 1001, 999999999, 1000000000, -1, -2, math.MaxInt, math.MinInt}
	return numbers[c.random.Intn(len(numbers))]
}

func (c chaos) word() string {
	words := append([]string{"", "g", "g", "g", "k", "v", "h", "life", "hit", "7", "\xff", "a b", strings.Repeat("a", 30)}, kindList...)
	return words[c.random.Intn(len(words))]
}

func (c chaos) text() string {
	texts := []string{"", "- -", "X X 0-1b:6", "C - 1-2p", "X", "BX X 0-4b", "z", " ", "\n", "X X 0-1z", strings.Repeat("B", 30) + " -"}
	return texts[c.random.Intn(len(texts))]
}

// list draws a short list.
func list[T any](c chaos, draw func() T) []T {
	l := make([]T, c.random.Intn(4))
	for i := range l {
		l[i] = draw()
	}
	return l
}

// wild draws an event with a number, which is often none.
func (c chaos) wild(n int) api.Event {
	e := event(n, rightLines[c.random.Intn(len(rightLines))])
	switch c.random.Intn(12) {
	case 0:
		e.Number = c.number()
	case 1:
		e.Kind = c.word()
	case 2:
		e.Names = list(c, c.word)
	case 3:
		e.Values = list(c, c.number)
	case 4:
		e.Text = c.text()
	case 5:
		return api.Event{Number: c.number(), Kind: c.word(), Names: list(c, c.word), Values: list(c, c.number), Text: c.text()}
	}
	for i := range e.Values {
		if c.maybe(6) {
			e.Values[i] = c.number()
		}
	}
	return e
}

// events draws events, the first of which are mostly accepted.
func (c chaos) events() []api.Event {
	l := example(c.random.Intn(7))
	for range c.random.Intn(3) {
		l = append(l, c.wild(len(l)+1))
	}
	return l
}

func (c chaos) log() string {
	parts := []string{"", logOf(exampleLines...), logOf(exampleLines[:2]...), signed("3 undo"), signed("7 undo"), signed("7 drop g 3"), signed("7 note"), "x", "\n", "#0000001\n", "\xff"}
	var log strings.Builder
	for range c.random.Intn(4) {
		log.WriteString(parts[c.random.Intn(len(parts))])
	}
	return log.String()
}

func (c chaos) play() api.Play {
	return api.Play{Pitches: c.text(), Event: c.word(), Late: c.maybe(2), Moves: list(c, func() api.Move {
		return api.Move{From: c.number(), To: c.number(), Out: c.maybe(2), How: c.word(), By: list(c, c.number)}
	})}
}

func (c chaos) plays() []api.Play {
	l := plays("X X 0-1b:6", "C - 1-2p", "X X 2-4b:82 0-2t:82")[:c.random.Intn(4)]
	if c.maybe(2) {
		l = append(l, c.play())
	}
	return l
}

func (c chaos) cells() []office.Cell {
	l := exampleCells()[:c.random.Intn(3)]
	if c.maybe(2) {
		l = append(l, list(c, func() office.Cell {
			return office.Cell{Inning: c.number(), Side: c.number(), Slot: c.number(), Plays: list(c, c.text), Path: list(c, c.number), Out: c.number(), Fate: c.word()}
		})...)
	}
	return l
}

func (c chaos) line() string {
	words := []string{"games", "state", "score", "last", "errors", "version", "missing", "g", "g", "1", "9", "0 0 0 6", "", " "}
	words = append(append(words, exampleLines...), kindList...)
	words = append(words, c.word(), c.text())
	var l []string
	for range 1 + c.random.Intn(3) {
		l = append(l, words[c.random.Intn(len(words))])
	}
	return strings.Join(l, " ")
}

// TestNothingPanics expects every function to return, and nothing beside an error.
func TestNothingPanics(t *testing.T) {
	c := chaos{&generator{rand.New(rand.NewSource(10))}}
	seen := map[api.Errno]int{}
	expect := func(what string, e api.Errno, isNothing bool) {
		t.Helper()
		seen[e]++
		if e != api.OK && !isNothing {
			t.Errorf("%s: a result beside the error %d", what, e)
		}
	}
	s := office.New()
	for i := range 4000 {
		l, e := c.events(), c.wild(1+c.random.Intn(9))
		err := office.CheckEvent(e)
		expect("CheckEvent", err, true)
		r, n, err := office.Replay(l)
		expect("Replay", err, r.Day == 0 && len(r.Games) == 0 && (n > 0 || len(l) == 0))
		want(t, "a number of Replay without an error", err == api.OK && n != 0, false)
		expect("Accepts", office.Accepts(l, e), true)
		r, err = office.AsOf(l, c.number())
		expect("AsOf", err, r.Day == 0 && len(r.Games) == 0)
		log := c.log()
		longer, err := office.Append(log, e)
		expect("Append", err, longer == "")
		events, at, err := office.Recover(log)
		expect("Recover", err, at < len(log) && (len(events) > 0) == (at > 0))
		cells, err := office.Sheet(c.plays())
		expect("Sheet", err, len(cells) == 0)
		list, err := office.ReadSheet(c.cells())
		expect("ReadSheet", err, len(list) == 0)
		open, err := office.Open(log)
		expect("Open", err, open == nil)
		result, err := s.Do(c.line())
		expect("Do", err, result == "")
		want(t, "an empty result", err == api.OK && result == "", false)
		if i%200 == 0 {
			want(t, "the log of the events", len(s.Events()), strings.Count(s.Log(), "\n"))
			s = office.New()
		}
	}
	for _, e := range []api.Errno{api.OK, api.ErrForm, api.ErrShape, api.ErrRange, api.ErrNone, api.ErrName, api.ErrTwice, api.ErrUnknown, api.ErrOrder, api.ErrEmpty, api.ErrKind, api.ErrPitch, api.ErrRule, api.ErrState, api.ErrProof, api.ErrSyntax, api.ErrTorn, api.ErrConflict, api.ErrJudge} {
		want(t, "an error was drawn", []any{e, seen[e] > 0}, []any{e, true})
	}
}

// roomy returns a list with room behind it.
func roomy[T any](l []T) []T {
	return append(make([]T, 0, len(l)+8), l...)
}

// behind returns what is behind the elements of a list.
func behind[T any](l []T) []T {
	return l[len(l):cap(l)]
}

// roomyEvents returns events with room behind each of their lists.
func roomyEvents() []api.Event {
	l := roomy(example(6))
	for i := range l {
		l[i].Names, l[i].Values = roomy(l[i].Names), roomy(l[i].Values)
	}
	return l
}

// roomyPlays returns plays with room behind each of their lists.
func roomyPlays() []api.Play {
	l := roomy(plays("X X 0-1b:6", "C - 1-2p", "X X 2-4b:82 0-2t:82"))
	for i := range l {
		l[i].Moves = roomy(l[i].Moves)
		for j := range l[i].Moves {
			l[i].Moves[j].By = roomy(l[i].Moves[j].By)
		}
	}
	return l
}

// roomyCells returns cells with room behind each of their lists.
func roomyCells() []office.Cell {
	l := roomy(exampleCells())
	for i := range l {
		l[i].Plays, l[i].Path = roomy(l[i].Plays), roomy(l[i].Path)
	}
	return l
}

// results returns the results of all functions that have lists.
func results(events []api.Event, list []api.Play, cells []office.Cell) []any {
	r, n, e := office.Replay(events)
	all := []any{r, n, e, office.CheckEvent(events[4]), office.Accepts(events[:5], events[5])}
	r, e = office.AsOf(events, 2)
	all = append(all, r, e)
	log, e := office.Append(logOf(exampleLines[:5]...), events[5])
	all = append(all, log, e)
	l, e := office.Sheet(list)
	all = append(all, l, e)
	p, e := office.ReadSheet(cells)
	return append(all, p, e)
}

// TestArgumentsStay expects no argument to be changed, nor kept.
func TestArgumentsStay(t *testing.T) {
	events, list, cells := roomyEvents(), roomyPlays(), roomyCells()
	before := results(events, list, cells)
	want(t, "the arguments", []any{events, list, cells}, []any{roomyEvents(), roomyPlays(), roomyCells()})
	want(t, "what is behind the events", behind(events), make([]api.Event, 8))
	want(t, "what is behind the names", behind(events[4].Names), make([]string, 8))
	want(t, "what is behind the values", behind(events[4].Values), make([]int, 8))
	want(t, "what is behind the plays", behind(list), make([]api.Play, 8))
	want(t, "what is behind the moves", behind(list[2].Moves), make([]api.Move, 8))
	want(t, "what is behind the touches", behind(list[2].Moves[0].By), make([]int, 8))
	want(t, "what is behind the cells", behind(cells), make([]office.Cell, 8))
	want(t, "what is behind the plays of a cell", behind(cells[1].Plays), make([]string, 8))
	want(t, "what is behind a path", behind(cells[0].Path), make([]int, 8))
	again := results(roomyEvents(), roomyPlays(), roomyCells())
	for _, e := range events {
		clear(e.Names)
		clear(e.Values)
	}
	for _, p := range list {
		for _, m := range p.Moves {
			clear(m.By)
		}
		clear(p.Moves)
	}
	for _, c := range cells {
		clear(c.Plays)
		clear(c.Path)
	}
	want(t, "results that are kept", before, again)
}

// spoil changes all memory of a register.
func spoil(r office.Register) {
	for _, g := range r.Games {
		for _, p := range g.Plays[:cap(g.Plays)] {
			for _, m := range p.Moves {
				clear(m.By)
			}
			clear(p.Moves)
		}
		clear(g.Plays[:cap(g.Plays)])
		clear(g.Judgments[:cap(g.Judgments)])
	}
	clear(r.Games[:cap(r.Games)])
}

// TestResultsShareNothing expects that a result that is changed does not reach into another one, nor into a session.
func TestResultsShareNothing(t *testing.T) {
	lines := followed(exampleLines, "open k v h 3", "play k 3 X X 0-1b:6", "judge k life 3 0 0 0 6", "undo", "judge k hit 3 0 0 1 0")
	l := journal(lines...)
	kept, _, _ := office.Replay(l)
	other, _ := office.AsOf(l, 9)
	r, _, _ := office.Replay(l)
	spoil(r)
	want(t, "a register beside one that is changed", kept, other)
	want(t, "the events", l, journal(lines...))
	for _, g := range kept.Games[:1] {
		spoil(office.Register{Games: []office.Game{g}})
	}
	want(t, "another game of a register", kept.Games[1], other.Games[1])
	s := session(lines...)
	for _, e := range s.Events() {
		clear(e.Names)
		clear(e.Values)
	}
	want(t, "the events of a session", s.Events(), l)
	clear(s.Events())
	want(t, "the events of a session again", s.Events(), l)
	want(t, "the log of a session", s.Log(), logOf(lines...))
	one, _, _ := office.Recover(s.Log())
	clear(one[0].Names)
	two, _, _ := office.Recover(s.Log())
	want(t, "what is recovered twice", two, l)
}

// Of a sheet no two cells share memory.
func TestCellsShareNothing(t *testing.T) {
	l, _ := office.Sheet(plays(walk, walks1, walks2, walks3))
	before := cellTexts(l)
	for i := range l {
		l[i].Path = append(l[i].Path, 9)
		l[i].Plays = append(l[i].Plays, "x")
	}
	for i := range l {
		l[i].Path = slices.Delete(l[i].Path, len(l[i].Path)-1, len(l[i].Path))
		l[i].Plays = l[i].Plays[:len(l[i].Plays)-1]
	}
	want(t, "cells with more in them, and less again", cellTexts(l), before)
}
