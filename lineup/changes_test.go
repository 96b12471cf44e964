package lineup_test

import (
	"math"
	"testing"

	"dugout/api"
	"dugout/lineup"
)

func TestSwap(t *testing.T) {
	x, l, e := lineup.Swap(teams(), calls())
	want(t, "the error of Swap", e, api.OK)
	want(t, "the teams", x, lineup.Teams{teams()[1], teams()[0]})
	want(t, "the changes", l, []lineup.Change{at(2, 0, 1, "c1", 9), at(2, 0, 8, "b8", 2), at(4, 0, 9, "c9", 1)})
	x, l, e = lineup.Swap(teams(), nil)
	want(t, "no changes", []any{x, len(l), e}, []any{lineup.Teams{teams()[1], teams()[0]}, 0, api.OK})
	both := []lineup.Change{at(1, 0, 9, "c", 1), at(2, 0, 1, "d", 3), at(2, 0, 2, "a2", 2), at(2, 1, 1, "e", 2), at(2, 1, 7, "f", 8), at(3, 1, 2, "g", 3)}
	x, l, _ = lineup.Swap(teams(), both)
	want(t, "both sides before a play, in order", l, []lineup.Change{at(1, 1, 9, "c", 1), at(2, 0, 1, "e", 2), at(2, 0, 7, "f", 8), at(2, 1, 1, "d", 3), at(2, 1, 2, "a2", 2), at(3, 0, 2, "g", 3)})
	want(t, "the changes that are exchanged", lineup.CheckChanges(x, l), api.OK)
}

func TestSplit(t *testing.T) {
	for _, row := range []struct {
		play int
		rest []lineup.Change
	}{
		{0, calls()},
		{1, []lineup.Change{at(1, 1, 1, "c1", 9), at(1, 1, 8, "b8", 2), at(3, 1, 9, "c9", 1)}},
		{2, []lineup.Change{at(0, 1, 1, "c1", 9), at(0, 1, 8, "b8", 2), at(2, 1, 9, "c9", 1)}},
		{3, []lineup.Change{at(1, 1, 9, "c9", 1)}},
		{4, []lineup.Change{at(0, 1, 9, "c9", 1)}},
		{5, nil},
		{256, nil},
	} {
		x, rest, e := lineup.Split(teams(), calls(), row.play)
		want(t, "the error of Split", e, api.OK)
		want(t, "the other changes", rest, row.rest)
		behind := teams()
		if row.play > 0 {
			behind, _ = lineup.At(teams(), calls(), row.play-1)
		}
		want(t, "the teams", x, behind)
	}
	for _, play := range []int{math.MinInt, -1, 257, math.MaxInt} {
		x, rest, e := lineup.Split(teams(), calls(), play)
		want(t, "Split at no play", []any{x, len(rest), e}, []any{lineup.Teams{}, 0, api.ErrRange})
	}
	last := []lineup.Change{at(0, 0, 1, "c", 2), at(256, 1, 1, "d", 2)}
	x, rest, _ := lineup.Split(teams(), last, 256)
	want(t, "Split at the last play", []any{x[0].Batters[0], rest}, []any{"c", []lineup.Change{at(0, 1, 1, "d", 2)}})
}
