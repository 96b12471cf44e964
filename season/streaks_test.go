package season_test

import (
	"math"
	"strings"
	"testing"

	"dugout/api"
	"dugout/season"
)

// streakByDefinition returns the streak of a list whose letters y are games of the kind, as the chapter defines it.
func streakByDefinition(s string) season.Streak {
	x := season.Streak{Games: len(s)}
	for n := range len(s) + 1 {
		run := strings.Repeat("y", n)
		if strings.HasPrefix(s, run) {
			x.First = n
		}
		if strings.HasSuffix(s, run) {
			x.Last = n
		}
		if strings.Contains(s, run) {
			x.Longest = n
		}
	}
	return x
}

// allLists returns the strings of all lists of so many games.
func allLists(n int) []string {
	l := []string{""}
	for range n {
		var longer []string
		for _, s := range l {
			longer = append(longer, s+"n", s+"y")
		}
		l = longer
	}
	return l
}

func TestStreakOf(t *testing.T) {
	for n := range 11 {
		for _, s := range allLists(n) {
			x, e := season.StreakOf(yes(s))
			want(t, "StreakOf "+s, []any{x, e}, []any{streakByDefinition(s), api.OK})
		}
	}
	x, e := season.StreakOf(make([]bool, 256))
	want(t, "StreakOf 256 games", []any{x, e}, []any{streak(256, 0, 0, 0), api.OK})
	x, e = season.StreakOf(yes(strings.Repeat("y", 256)))
	want(t, "StreakOf 256 games of the kind", []any{x, e}, []any{streak(256, 256, 256, 256), api.OK})
	x, e = season.StreakOf(make([]bool, 257))
	want(t, "StreakOf 257 games", []any{x, e}, []any{season.Streak{}, api.ErrMany})
}

// A streak has its form exactly if a list has it.
func TestCheckStreak(t *testing.T) {
	for games := range 11 {
		known := map[season.Streak]bool{}
		for _, s := range allLists(games) {
			known[streakByDefinition(s)] = true
		}
		for first := -1; first <= games+1; first++ {
			for last := -1; last <= games+1; last++ {
				for longest := -1; longest <= games+1; longest++ {
					s := streak(games, first, last, longest)
					wanted := api.ErrForm
					if known[s] {
						wanted = api.OK
					}
					if e := season.CheckStreak(s); e != wanted {
						t.Errorf("CheckStreak of %v: got %d, want %d", s, e, wanted)
					}
				}
			}
		}
	}
	for _, s := range []season.Streak{streak(most, 0, 0, 0), streak(most, most, most, most), streak(most, most-2, 1, most-2), streak(most, 1, 1, most-4), streak(most, 0, 0, most-2)} {
		want(t, "CheckStreak of a long list", season.CheckStreak(s), api.OK)
	}
	for _, s := range []season.Streak{streak(most, most-1, 1, most-1), streak(most, 1, 1, most-3), streak(most, 0, 0, most-1), streak(most, most, most, most-1), streak(5, math.MinInt, 0, 0), streak(5, 0, math.MinInt, 0), streak(5, 0, 0, math.MaxInt), streak(5, math.MaxInt, math.MaxInt, math.MaxInt), streak(0, 0, 0, 1), streak(0, math.MinInt, math.MaxInt, 0)} {
		want(t, "CheckStreak of none", season.CheckStreak(s), api.ErrForm)
	}
	for _, n := range beyond(0, most) {
		want(t, "CheckStreak of wrong games", season.CheckStreak(streak(n, n, n, n)), api.ErrRange)
		want(t, "CheckStreak of wrong games and numbers", season.CheckStreak(streak(n, -1, 3, 2)), api.ErrRange)
	}
}

func TestJoin(t *testing.T) {
	for n := range 6 {
		for m := range 6 {
			for _, a := range allLists(n) {
				for _, b := range allLists(m) {
					x, e := season.Join(streakByDefinition(a), streakByDefinition(b))
					if x != streakByDefinition(a+b) || e != api.OK {
						t.Errorf("Join of %q and %q: got %v and %d", a, b, x, e)
					}
				}
			}
		}
	}
	for _, row := range []struct {
		a, b, joined season.Streak
		err          api.Errno
	}{
		{streak(most, most, most, most), season.Streak{}, streak(most, most, most, most), api.OK},
		{streak(most-1, most-1, most-1, most-1), streak(1, 1, 1, 1), streak(most, most, most, most), api.OK},
		{streak(500, 1, 2, 3), streak(most-500, 4, 5, 6), streak(most, 1, 5, 6), api.OK},
		{streak(257, 257, 257, 257), streak(300, 0, 0, 0), streak(557, 257, 0, 257), api.OK},
		{streak(most, 0, 0, 0), streak(1, 0, 0, 0), season.Streak{}, api.ErrRange},
		{streak(500, 1, 2, 3), streak(most-499, 4, 5, 6), season.Streak{}, api.ErrRange},
		{streak(most, most, most, most), streak(most, most, most, most), season.Streak{}, api.ErrRange},
		{streak(5, 1, 1, 3), streak(-1, 0, 0, 0), season.Streak{}, api.ErrForm},
		{streak(-1, 0, 0, 0), streak(5, 1, 1, 3), season.Streak{}, api.ErrRange},
		{streak(most, 0, 0, 0), streak(5, 1, 1, 3), season.Streak{}, api.ErrForm},
		{streak(1, 0, 0, 0), streak(most+1, 0, 0, 0), season.Streak{}, api.ErrRange},
		{streak(math.MaxInt, 0, 0, 0), streak(math.MaxInt, 0, 0, 0), season.Streak{}, api.ErrRange},
		{streak(2, 0, 0, 0), streak(math.MinInt, 0, 0, 0), season.Streak{}, api.ErrRange},
	} {
		x, e := season.Join(row.a, row.b)
		want(t, "Join", []any{row.a, row.b, x, e}, []any{row.a, row.b, row.joined, row.err})
	}
}

func TestStreakIn(t *testing.T) {
	b := book(
		game("c 1 1 cats dogs 1 0", "ann cats h 1 e 2", "bob dogs"),
		game("a 1 2 birds dogs 1 0", "ann dogs h 3", "bob dogs h 1"),
		game("d 9 3 cats dogs 1 0", "bob dogs h 2"),
		game("b 1 4 cats dogs 1 0", "ann cats", "bob cats h 1"),
		game("e 1 4 cats dogs 1 0"),
		game("f 1 4 cats dogs 1 0", "ann dogs h 999 e 1"),
	)
	for _, row := range []struct {
		player, kind string
		streak       season.Streak
	}{
		{"ann", "h", streak(4, 2, 1, 2)}, {"bob", "h", streak(4, 0, 3, 3)}, {"ann", "e", streak(4, 1, 1, 1)}, {"bob", "e", streak(4, 0, 0, 0)}, {"cy", "h", streak(0, 0, 0, 0)}, {"cats", "h", streak(0, 0, 0, 0)}, {"Ann", "h", streak(0, 0, 0, 0)},
	} {
		s, e := season.StreakIn(b, row.player, row.kind)
		want(t, "StreakIn of "+row.player+" by "+row.kind, []any{s, e}, []any{row.streak, api.OK})
	}
	s, e := season.StreakIn(season.Book{}, "ann", "h")
	want(t, "StreakIn no games", []any{s, e}, []any{season.Streak{}, api.OK})
	for at, kind := range kindList {
		g := gameH()
		g.Lines[0].Counts = [season.MaxKinds]int{}
		g.Lines[0].Counts[at] = 1
		for _, other := range kindList {
			wanted := streak(1, 0, 0, 0)
			if kind == other {
				wanted = streak(1, 1, 1, 1)
			}
			s, e := season.StreakIn(book(g), "ann", other)
			want(t, "StreakIn of "+kind+" by "+other, []any{s, e}, []any{wanted, api.OK})
		}
	}
	for _, player := range wrongNames {
		s, e := season.StreakIn(b, player, "H")
		want(t, "StreakIn of "+player, []any{s, e}, []any{season.Streak{}, api.ErrName})
	}
	for _, kind := range wrongKinds {
		s, e := season.StreakIn(b, "ann", kind)
		want(t, "StreakIn by "+kind, []any{s, e}, []any{season.Streak{}, api.ErrKind})
	}
}
