package season

import "dugout/api"

// StreakOf returns the streak of a list of games.
func StreakOf(l []bool) (Streak, api.Errno) {
	if len(l) > api.MaxList {
		return Streak{}, api.ErrMany
	}
	return streakOf(l), api.OK
}

func streakOf(l []bool) Streak {
	var s Streak
	for _, isOfKind := range l {
		one := Streak{Games: 1}
		if isOfKind {
			one = unbroken(1)
		}
		s = s.join(one)
	}
	return s
}

// unbroken returns the streak of so many games all of which are of the kind.
func unbroken(games int) Streak {
	return Streak{games, games, games, games}
}

// join returns the streak of two lists, one after the other.
func (s Streak) join(next Streak) Streak {
	joined := Streak{
		Games:   s.Games + next.Games,
		First:   s.First,
		Last:    next.Last,
		Longest: max(s.Longest, next.Longest, s.Last+next.First),
	}
	if s == unbroken(s.Games) {
		joined.First += next.First
	}
	if next == unbroken(next.Games) {
		joined.Last += s.Last
	}
	return joined
}

// CheckStreak returns the first error of a streak, or OK.
func CheckStreak(s Streak) api.Errno {
	if e := checkRange(0, api.MaxNumber, s.Games); e != api.OK {
		return e
	}
	if !s.hasList() {
		return api.ErrForm
	}
	return api.OK
}

// hasList reports whether a list of games has the streak.
func (s Streak) hasList() bool {
	if !within(s.First, 0, s.Longest) || !within(s.Last, 0, s.Longest) || s.Longest > s.Games {
		return false
	}
	if s.Longest == s.Games {
		return s == unbroken(s.Games)
	}
	// Between the games at both ends there is at least one of another kind, and a longer run of games of the kind needs one on each side.
	least := s.First + s.Last + 1
	if s.Longest > max(s.First, s.Last) {
		least += s.Longest + 1
	}
	return least <= s.Games
}

// Join returns the streak of two lists, one after the other.
func Join(a, b Streak) (Streak, api.Errno) {
	if e := first(CheckStreak(a), CheckStreak(b), checkRange(0, api.MaxNumber, a.Games+b.Games)); e != api.OK {
		return Streak{}, e
	}
	return a.join(b), api.OK
}

// StreakIn returns the streak of a player in a book.
func StreakIn(b Book, player, kind string) (Streak, api.Errno) {
	at, wrong := kindOf(kind)
	if e := first(CheckBook(b), checkNames(player), wrong); e != api.OK {
		return Streak{}, e
	}
	var l []bool
	for g := range games(b.Games) {
		for _, x := range g.Lines {
			if x.Player == player {
				l = append(l, x.Counts[at] > 0)
			}
		}
	}
	return streakOf(l), api.OK
}
