package lineup_test

import (
	"testing"

	"dugout/api"
	"dugout/lineup"
)

// strikeout is a play that ends a turn with an out.
const strikeout = "CCS K 0x1k:2"

func TestTurns(t *testing.T) {
	game := plays(t, "X X 0-1b", "C -", "CS K 0x1k:2", 2, strikeout, 2, strikeout)
	l := []lineup.Change{at(1, 0, 2, "d", 1), at(1, 0, 9, "a9", 3), at(3, 1, 9, "e", 1), at(5, 1, 1, "f", 2), at(6, 0, 2, "d", 3), at(6, 0, 9, "g", 1)}
	turns, e := lineup.Turns(teams(), l, game)
	want(t, "the error of Turns", e, api.OK)
	want(t, "the turns", turns, []lineup.Turn{
		{Side: 0, Slot: 1, Batter: "a1", Pitcher: "b9"},
		{Side: 0, Slot: 2, Batter: "d", Pitcher: "b9"},
		{Side: 0, Slot: 2, Batter: "d", Pitcher: "b9"},
		{Side: 0, Slot: 3, Batter: "a3", Pitcher: "e"},
		{Side: 0, Slot: 4, Batter: "a4", Pitcher: "e"},
		{Side: 1, Slot: 1, Batter: "f", Pitcher: "d"},
		{Side: 1, Slot: 2, Batter: "b2", Pitcher: "g"},
	})
	turns, e = lineup.Turns(teams(), l, nil)
	want(t, "the turns of no plays", turns, nil)
	want(t, "the error of no plays", e, api.OK)
	turns, _ = lineup.Turns(teams(), []lineup.Change{at(0, 0, 1, "c", 2), at(0, 1, 9, "d", 1)}, game[:1])
	want(t, "changes before play 0", turns, []lineup.Turn{{Side: 0, Slot: 1, Batter: "c", Pitcher: "d"}})
	turns, _ = lineup.Turns(teams(), nil, plays(t, 27, strikeout, 27, strikeout))
	want(t, "the turn behind slot 9", turns[9*2], lineup.Turn{Side: 0, Slot: 1, Batter: "a1", Pitcher: "b9"})
	want(t, "the last turn", turns[53], lineup.Turn{Side: 1, Slot: 9, Batter: "b9", Pitcher: "a9"})
}

func TestHandlers(t *testing.T) {
	game := plays(t, "X X 0-1b:6", "C -", "X X 1x2f:64 0x1f:643", "X X 0x1c:8", "X X 0-2b:787", "C -", "CS K 2x3g:21512 0x1k:2", strikeout)
	l := []lineup.Change{at(2, 1, 3, "c", 4), at(6, 0, 1, "a1", 1), at(6, 0, 9, "d", 2)}
	handlers, e := lineup.Handlers(teams(), l, game)
	want(t, "the error of Handlers", e, api.OK)
	want(t, "the handlers", handlers, [][][]string{
		{{"b5"}},
		nil,
		{{"b5", "c"}, {"b5", "c", "b2"}},
		{{"b7"}},
		{{"a6", "a7", "a6"}},
		nil,
		{{"d", "a1", "a4", "a1", "d"}, {"d"}},
		{{"d"}},
	})
	handlers, e = lineup.Handlers(teams(), l, nil)
	want(t, "the handlers of no plays", handlers, nil)
	want(t, "the error of no plays", e, api.OK)
	handlers, _ = lineup.Handlers(teams(), nil, plays(t, "X X 0-1b"))
	want(t, "a move that nobody handled", []int{len(handlers), len(handlers[0]), len(handlers[0][0])}, []int{1, 1, 0})
}

func TestWrongPlays(t *testing.T) {
	over := plays(t, 51, strikeout, "X X 0-4b", "C -")
	for what, row := range map[string]struct {
		plays []api.Play
		err   api.Errno
	}{
		"257 plays":                 {make([]api.Play, 257), api.ErrMany},
		"a play without its form":   {[]api.Play{{Event: "Q"}}, api.ErrKind},
		"a play that breaks a rule": {plays(t, "X X 0-1b", "X X 0-1b"), api.ErrRule},
		"a play behind the end":     {plays(t, 24*2+3, strikeout, "X X 0-4b", 4, strikeout), api.ErrOver},
	} {
		turns, e := lineup.Turns(teams(), calls(), row.plays)
		want(t, what+", Turns", []any{len(turns), e}, []any{0, row.err})
		handlers, e := lineup.Handlers(teams(), calls(), row.plays)
		want(t, what+", Handlers", []any{len(handlers), e}, []any{0, row.err})
	}
	_, e := lineup.Turns(teams(), calls(), over[:52])
	want(t, "a game that ends", e, api.OK)
}

func TestDeviate(t *testing.T) {
	for _, row := range []struct {
		first int
		came  []string
		d     lineup.Deviation
		err   api.Errno
	}{
		{8, []string{"a8", "a9", "a2", "a1"}, lineup.Deviation{Index: 2, Proper: "a1", Came: "a2", Next: "a2"}, api.OK},
		{1, []string{"a9"}, lineup.Deviation{Index: 0, Proper: "a1", Came: "a9", Next: "a2"}, api.OK},
		{9, []string{"a1", "a1"}, lineup.Deviation{Index: 0, Proper: "a9", Came: "a1", Next: "a1"}, api.OK},
		{8, []string{"a8", "a8"}, lineup.Deviation{Index: 1, Proper: "a9", Came: "a8", Next: "a1"}, api.OK},
		{1, []string{"a1", "a2", "a3", "a4", "a5", "a6", "a7", "a8", "a9", "a1", "a3"}, lineup.Deviation{Index: 10, Proper: "a2", Came: "a3", Next: "a3"}, api.OK},
		{8, []string{"a8", "a9"}, lineup.Deviation{}, api.ErrNone},
		{3, nil, lineup.Deviation{}, api.ErrNone},
		{8, []string{"b1"}, lineup.Deviation{}, api.ErrUnknown},
		{8, []string{"a1", ""}, lineup.Deviation{}, api.ErrUnknown},
		{0, []string{""}, lineup.Deviation{}, api.ErrRange},
		{10, make([]string, 257), lineup.Deviation{}, api.ErrRange},
		{9, make([]string, 257), lineup.Deviation{}, api.ErrMany},
		{9, make([]string, 256), lineup.Deviation{}, api.ErrUnknown},
	} {
		d, e := lineup.Deviate(teams()[0], row.first, row.came)
		want(t, "Deviate", []any{d, e}, []any{row.d, row.err})
	}
	wrong := teams()[0]
	wrong.Positions[8] = 2
	d, e := lineup.Deviate(wrong, 0, nil)
	want(t, "Deviate of a wrong lineup", []any{d, e}, []any{lineup.Deviation{}, api.ErrConflict})
	l, came := teams()[0], []string(nil)
	for i := range 256 {
		came = append(came, l.Batters[i%9])
	}
	_, e = lineup.Deviate(l, 1, came)
	want(t, "256 proper names", e, api.ErrNone)
	d, e = lineup.Deviate(l, 1, append(came[:255:255], "a1"))
	want(t, "the last of 256 names", []any{d, e}, []any{lineup.Deviation{Index: 255, Proper: "a4", Came: "a1", Next: "a5"}, api.OK})
}

func TestImproper(t *testing.T) {
	for _, row := range []struct {
		first int
		came  []string
		at    []int
		err   api.Errno
	}{
		{8, []string{"a8", "a9", "a2", "a1"}, []int{2, 3}, api.OK},
		{8, []string{"a8", "a9", "a2", "a3", "a4", "a4", "a5"}, []int{2, 5}, api.OK},
		{1, []string{"a9", "a1", "a2"}, []int{0}, api.OK},
		{9, []string{"a9", "a1"}, nil, api.OK},
		{5, []string{"a5", "a5", "a5"}, []int{1, 2}, api.OK},
		{3, nil, nil, api.OK},
		{3, []string{"a3", "A4"}, nil, api.ErrUnknown},
		{0, []string{""}, nil, api.ErrRange},
		{10, make([]string, 257), nil, api.ErrRange},
		{1, make([]string, 257), nil, api.ErrMany},
		{1, make([]string, 256), nil, api.ErrUnknown},
	} {
		at, e := lineup.Improper(teams()[0], row.first, row.came)
		want(t, "Improper", at, row.at)
		want(t, "the error of Improper", e, row.err)
	}
	wrong := teams()[0]
	wrong.Batters[8] = "a1"
	at, e := lineup.Improper(wrong, 0, nil)
	want(t, "Improper of a wrong lineup", []any{len(at), e}, []any{0, api.ErrTwice})
}
