package lineup_test

import (
	"math"
	"strings"
	"testing"

	"dugout/api"
	"dugout/lineup"
)

func TestAt(t *testing.T) {
	behind := teams()
	for _, row := range []struct {
		play   int
		change func(*lineup.Lineup)
	}{
		{0, func(*lineup.Lineup) {}},
		{1, func(*lineup.Lineup) {}},
		{2, func(l *lineup.Lineup) { l.Batters[0], l.Positions[0], l.Positions[7] = "c1", 9, 2 }},
		{3, func(*lineup.Lineup) {}},
		{4, func(l *lineup.Lineup) { l.Batters[8] = "c9" }},
		{256, func(*lineup.Lineup) {}},
	} {
		row.change(&behind[1])
		now, e := lineup.At(teams(), calls(), row.play)
		want(t, "the error of At", e, api.OK)
		want(t, "the teams at a play", now, behind)
	}
	now, e := lineup.At(teams(), nil, 256)
	want(t, "At without changes", []any{now, e}, []any{teams(), api.OK})
	now, _ = lineup.At(teams(), []lineup.Change{at(0, 0, 9, "c", 1)}, 0)
	want(t, "At behind a change before play 0", now[0].Batters[8], "c")
	for _, play := range []int{math.MinInt, -1, 257, math.MaxInt} {
		now, e = lineup.At(teams(), calls(), play)
		want(t, "At no play", []any{now, e}, []any{lineup.Teams{}, api.ErrRange})
	}
}

func TestNames(t *testing.T) {
	starters := []string{"a1", "a2", "a3", "a4", "a5", "a6", "a7", "a8", "a9"}
	all, e := lineup.Names(teams(), calls())
	want(t, "the error of Names", e, api.OK)
	want(t, "the names of side 0", all[0], starters)
	want(t, "the names of side 1", all[1], []string{"b1", "b2", "b3", "b4", "b5", "b6", "b7", "b8", "b9", "c1", "c9"})
	all, _ = lineup.Names(teams(), []lineup.Change{at(1, 0, 9, "z", 1), at(1, 1, 2, "y", 3), at(2, 0, 1, "x", 2)})
	want(t, "the names by changes", all[0][9:], []string{"z", "x"})
	want(t, "the names of the other side", all[1][9:], []string{"y"})
	all, _ = lineup.Names(teams(), []lineup.Change{at(3, 0, 1, "a1", 1), at(3, 0, 9, "w", 2)})
	want(t, "a change of position is no new name", all[0], append(starters, "w"))
}

func TestWho(t *testing.T) {
	for _, row := range []struct {
		play, side, position int
		who                  string
	}{
		{0, 0, 1, "a9"}, {0, 0, 2, "a1"}, {0, 0, 9, "a8"}, {1, 1, 2, "b1"}, {2, 1, 2, "b8"}, {2, 1, 9, "c1"}, {2, 1, 3, "b2"},
		{3, 1, 1, "b9"}, {4, 1, 1, "c9"}, {256, 1, 1, "c9"}, {256, 0, 1, "a9"},
	} {
		who, e := lineup.Who(teams(), calls(), row.play, row.side, row.position)
		want(t, "Who", []any{who, e}, []any{row.who, api.OK})
	}
	for _, row := range []struct {
		play, side, position int
		err                  api.Errno
	}{
		{-1, 2, 0, api.ErrRange}, {257, 2, 0, api.ErrRange}, {0, 2, 0, api.ErrSide}, {0, -1, 1, api.ErrSide},
		{0, 0, 0, api.ErrRange}, {0, 1, 10, api.ErrRange}, {256, 1, math.MinInt, api.ErrRange},
	} {
		who, e := lineup.Who(teams(), calls(), row.play, row.side, row.position)
		want(t, "Who, refused", []any{who, e}, []any{"", row.err})
	}
}

func TestSlotOf(t *testing.T) {
	for _, row := range []struct {
		play, side int
		player     string
		slot       int
		err        api.Errno
	}{
		{1, 1, "b1", 1, api.OK}, {2, 1, "b1", 0, api.ErrUnknown}, {1, 1, "c1", 0, api.ErrUnknown}, {2, 1, "c1", 1, api.OK},
		{2, 1, "b8", 8, api.OK}, {4, 1, "c9", 9, api.OK}, {3, 1, "c9", 0, api.ErrUnknown}, {256, 0, "a9", 9, api.OK},
		{2, 0, "b2", 0, api.ErrUnknown}, {2, 1, "a1", 0, api.ErrUnknown}, {0, 0, "z", 0, api.ErrUnknown},
		{0, 0, "", 0, api.ErrName}, {0, 0, "9", 0, api.ErrName}, {0, 0, strings.Repeat("z", 25), 0, api.ErrName},
		{-1, 2, "", 0, api.ErrRange}, {257, 0, "a1", 0, api.ErrRange}, {0, 2, "", 0, api.ErrSide}, {0, -1, "a1", 0, api.ErrSide},
	} {
		slot, e := lineup.SlotOf(teams(), calls(), row.play, row.side, row.player)
		want(t, "SlotOf "+row.player, []any{slot, e}, []any{row.slot, row.err})
	}
}

func TestGone(t *testing.T) {
	for _, row := range []struct {
		play, side int
		gone       []string
		err        api.Errno
	}{
		{0, 1, nil, api.OK}, {1, 1, nil, api.OK}, {2, 1, []string{"b1"}, api.OK}, {3, 1, []string{"b1"}, api.OK},
		{4, 1, []string{"b1", "b9"}, api.OK}, {256, 1, []string{"b1", "b9"}, api.OK}, {256, 0, nil, api.OK},
		{-1, 2, nil, api.ErrRange}, {257, 1, nil, api.ErrRange}, {0, 2, nil, api.ErrSide}, {0, -1, nil, api.ErrSide},
	} {
		gone, e := lineup.Gone(teams(), calls(), row.play, row.side)
		want(t, "Gone", gone, row.gone)
		want(t, "the error of Gone", e, row.err)
	}
	l := []lineup.Change{at(1, 0, 9, "z", 1), at(2, 0, 1, "y", 2), at(2, 0, 9, "x", 1), at(3, 1, 1, "w", 2)}
	gone, _ := lineup.Gone(teams(), l, 2, 0)
	want(t, "Gone by changes", gone, []string{"a9", "a1", "z"})
	gone, _ = lineup.Gone(teams(), l, 3, 1)
	want(t, "Gone of the other side", gone, []string{"b1"})
}

func TestPlayed(t *testing.T) {
	for _, row := range []struct {
		n      int
		player string
		played int
		err    api.Errno
	}{
		{6, "b1", 2, api.OK}, {6, "b8", 6, api.OK}, {6, "c9", 2, api.OK}, {6, "c1", 4, api.OK}, {6, "b9", 4, api.OK},
		{6, "a1", 6, api.OK}, {0, "a1", 0, api.OK}, {1, "b1", 1, api.OK}, {4, "c9", 0, api.OK}, {5, "c9", 1, api.OK},
		{0, "c9", 0, api.OK}, {256, "c9", 252, api.OK}, {256, "b9", 4, api.OK}, {6, "z", 0, api.ErrUnknown}, {0, "z", 0, api.ErrUnknown},
		{6, "", 0, api.ErrName}, {6, "a-1", 0, api.ErrName}, {-1, "", 0, api.ErrRange}, {257, "z", 0, api.ErrRange},
	} {
		played, e := lineup.Played(teams(), calls(), row.n, row.player)
		want(t, "Played "+row.player, []any{played, e}, []any{row.played, row.err})
	}
	l := []lineup.Change{at(0, 0, 1, "c", 2), at(9, 1, 2, "d", 3)}
	for player, wanted := range map[string]int{"a1": 0, "c": 7, "d": 0, "b2": 7} {
		played, e := lineup.Played(teams(), l, 7, player)
		want(t, "Played "+player+" of 7", []any{played, e}, []any{wanted, api.OK})
	}
}
