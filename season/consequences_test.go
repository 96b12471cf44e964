package season_test

import (
	"maps"
	"slices"
	"strings"
	"testing"

	"dugout/api"
	"dugout/season"
)

// expectOK expects no error.
func expectOK(t *testing.T, what string, e api.Errno) {
	t.Helper()
	want(t, "the error of "+what, e, api.OK)
}

// totalsByDefinition returns the totals of games, less those of others, as the chapter defines them.
func totalsByDefinition(games, others []season.Game) []season.Total {
	known := map[string]season.Total{}
	count := func(l []season.Game, times int) {
		for _, g := range l {
			for _, x := range g.Lines {
				t := known[x.Player]
				t.Games += times
				for kind := range x.Counts {
					t.Counts[kind] += times * x.Counts[kind]
				}
				known[x.Player] = t
			}
		}
	}
	count(games, 1)
	count(others, -1)
	var l []season.Total
	for _, player := range slices.Sorted(maps.Keys(known)) {
		t := known[player]
		if t != (season.Total{}) {
			t.Player = player
			l = append(l, t)
		}
	}
	return l
}

func TestTotalsByTheirDefinition(t *testing.T) {
	g := newGenerator(1)
	for range 100 {
		b, other := g.book(20), g.games(20)
		expectOK(t, "CheckBook", season.CheckBook(b))
		l, e := season.Totals(b)
		expectOK(t, "Totals", e)
		want(t, "Totals", l, totalsByDefinition(b.Games, nil))
		l, e = season.Difference(other, b.Games)
		expectOK(t, "Difference", e)
		want(t, "Difference", l, totalsByDefinition(b.Games, other))
	}
}

// Totals that are kept by differences, while games are put, replaced and removed, are those of the book.
func TestTotalsKeptByDifferences(t *testing.T) {
	g := newGenerator(2)
	var b season.Book
	var kept []season.Total
	for range 400 {
		next, before, after := b, []season.Game(nil), []season.Game(nil)
		var e api.Errno
		at := g.random.Intn(len(b.Games) + 1)
		switch action := g.random.Intn(4); {
		case at == len(b.Games) || action > 1:
			x := g.game("n" + strings.Repeat("x", g.random.Intn(20)))
			x.Version = 1
			after = []season.Game{x}
			next, e = season.Put(b, x)
		case action == 1:
			x := g.game(b.Games[at].Name)
			x.Version = b.Games[at].Version + 1
			before, after = b.Games[at:at+1], []season.Game{x}
			next, e = season.Replace(b, x)
		default:
			before = b.Games[at : at+1]
			next, e = season.Remove(b, b.Games[at].Name)
		}
		if e == api.ErrTwice {
			continue
		}
		expectOK(t, "the change", e)
		expectOK(t, "CheckBook", season.CheckBook(next))
		d, e := season.Difference(before, after)
		expectOK(t, "Difference", e)
		whole, e := season.Difference(b.Games, next.Games)
		expectOK(t, "Difference of books", e)
		want(t, "the difference of the books", whole, d)
		kept, e = season.Update(kept, d)
		expectOK(t, "Update", e)
		l, e := season.Totals(next)
		expectOK(t, "Totals", e)
		want(t, "totals that are kept", kept, l)
		b = next
	}
}

func TestOrderOfPuttingHasNoEffect(t *testing.T) {
	g := newGenerator(3)
	for range 40 {
		b := g.book(12)
		for i := range b.Games {
			b.Games[i].Version = 1
		}
		var built season.Book
		for _, i := range g.random.Perm(len(b.Games)) {
			next, e := season.Put(built, b.Games[i])
			expectOK(t, "Put", e)
			built = next
		}
		wantBook(t, "the book", built, b)
	}
}

// mergedByDefinition returns what two books know together, as the chapter defines it.
func mergedByDefinition(a, b season.Book) season.Book {
	var l []season.Game
	all := slices.Concat(a.Games, b.Games)
	for _, g := range all {
		text, _ := season.Print(g)
		isBest, isFirst := true, true
		for _, other := range all {
			s, _ := season.Print(other)
			if other.Name == g.Name && (other.Version > g.Version || other.Version == g.Version && s < text) {
				isBest = false
			}
		}
		for _, known := range l {
			isFirst = isFirst && known.Name != g.Name
		}
		if isBest && isFirst {
			l = append(l, g)
		}
	}
	return ordered(l)
}

func TestMergeOfDrawnBooks(t *testing.T) {
	g := newGenerator(4)
	merge := func(a, b season.Book) season.Book {
		t.Helper()
		m, e := season.Merge(a, b)
		expectOK(t, "Merge", e)
		return m
	}
	for range 60 {
		a, b, c := g.book(14), g.book(14), g.book(14)
		both := merge(a, b)
		expectOK(t, "CheckBook", season.CheckBook(both))
		wantBook(t, "Merge", both, mergedByDefinition(a, b))
		wantBook(t, "Merge is commutative", merge(b, a), both)
		wantBook(t, "Merge is associative", merge(both, c), merge(a, merge(b, c)))
		wantBook(t, "Merge is idempotent", merge(a, a), a)
		wantBook(t, "Merge is idempotent together", merge(both, b), both)
		for _, x := range slices.Concat(a.Games, b.Games) {
			isKept := slices.ContainsFunc(both.Games, func(g season.Game) bool { return g.Name == x.Name && g.Version >= x.Version })
			want(t, "a game that is kept", isKept, true)
		}
	}
}

func TestPartsOfBooks(t *testing.T) {
	g := newGenerator(5)
	for range 40 {
		b := g.book(20)
		day := g.random.Intn(12)
		early, e := season.Between(b, 0, day)
		expectOK(t, "Between", e)
		late, e := season.Between(b, day+1, season.MaxDay)
		expectOK(t, "Between", e)
		for _, x := range early.Games {
			want(t, "an early game", x.Day <= day, true)
		}
		wantBook(t, "both parts", season.Book{Games: slices.Concat(early.Games, late.Games)}, b)
		for _, player := range []string{"ann", "Jo", "bo_", "nobody"} {
			for _, kind := range kindList {
				one, _ := season.StreakIn(early, player, kind)
				two, _ := season.StreakIn(late, player, kind)
				joined, e := season.Join(one, two)
				expectOK(t, "Join", e)
				whole, e := season.StreakIn(b, player, kind)
				expectOK(t, "StreakIn", e)
				want(t, "the streak of a player", joined, whole)
				expectOK(t, "CheckStreak", season.CheckStreak(whole))
			}
		}
	}
}

func TestJoinIsAssociative(t *testing.T) {
	g := newGenerator(6)
	draw := func() season.Streak {
		l := make([]bool, g.random.Intn(7))
		for i := range l {
			l[i] = g.random.Intn(3) > 0
		}
		s, e := season.StreakOf(l)
		expectOK(t, "StreakOf", e)
		return s
	}
	join := func(a, b season.Streak) season.Streak {
		s, e := season.Join(a, b)
		expectOK(t, "Join", e)
		return s
	}
	for range 2000 {
		a, b, c := draw(), draw(), draw()
		want(t, "Join is associative", join(join(a, b), c), join(a, join(b, c)))
	}
}

// comesBefore reports whether a standing stands before another one, as the chapter defines it.
func comesBefore(a, b season.Standing) bool {
	// Won games of won or lost ones, with both quotients multiplied by both denominators.
	left, right := a.Won*max(1, b.Won+b.Lost), b.Won*max(1, a.Won+a.Lost)
	if left != right {
		return left > right
	}
	if a.For-a.Against != b.For-b.Against {
		return a.For-a.Against > b.For-b.Against
	}
	return a.Team < b.Team
}

func TestStandingsByTheirDefinition(t *testing.T) {
	g := newGenerator(7)
	for range 100 {
		b := g.book(1 + g.random.Intn(20))
		l, e := season.Standings(b)
		expectOK(t, "Standings", e)
		var sum season.Standing
		for i, s := range l {
			want(t, "a standing", s, standingByDefinition(b, s.Team))
			if i > 0 {
				want(t, "the order of standings", comesBefore(l[i-1], s), true)
			}
			sum.Won, sum.Lost, sum.Tied = sum.Won+s.Won, sum.Lost+s.Lost, sum.Tied+s.Tied
			sum.For, sum.Against = sum.For+s.For, sum.Against+s.Against
			n, e := season.Behind(l[0], s)
			expectOK(t, "Behind", e)
			back, e := season.Behind(s, l[0])
			expectOK(t, "Behind", e)
			want(t, "Behind the other way", n, -back)
		}
		want(t, "games won and lost, and runs, add up to 0", []int{sum.Won - sum.Lost, sum.For - sum.Against}, []int{0, 0})
		want(t, "each game counts for two teams", sum.Won+sum.Lost+sum.Tied, 2*len(b.Games))
		for _, x := range b.Games {
			for _, team := range x.Teams {
				want(t, "a team has a standing", slices.ContainsFunc(l, func(s season.Standing) bool { return s.Team == team }), true)
			}
		}
	}
}

// standingByDefinition returns the standing of a team, as the chapter defines it.
func standingByDefinition(b season.Book, team string) season.Standing {
	s := season.Standing{Team: team}
	for _, g := range b.Games {
		own := slices.Index(g.Teams[:], team)
		if own < 0 {
			continue
		}
		s.For += g.Score[own]
		s.Against += g.Score[1-own]
		if g.Score[own] > g.Score[1-own] {
			s.Won++
		} else if g.Score[own] < g.Score[1-own] {
			s.Lost++
		} else {
			s.Tied++
		}
	}
	return s
}

// isLeader reports whether a total qualifies.
func isLeader(x season.Total, num, den, least int) bool {
	return x.Counts[den] >= least && x.Counts[den] > 0
}

func TestLeadersByTheirDefinition(t *testing.T) {
	g := newGenerator(8)
	for range 100 {
		l, e := season.Totals(g.book(20))
		expectOK(t, "Totals", e)
		num, den, least, n := g.random.Intn(12), g.random.Intn(12), g.random.Intn(8), 1+g.random.Intn(6)
		x, e := season.Leaders(l, kindList[num], kindList[den], least, n)
		expectOK(t, "Leaders", e)
		size := 0
		for _, a := range l {
			if !isLeader(a, num, den, least) {
				continue
			}
			place := 1
			for _, b := range l {
				if isLeader(b, num, den, least) && b.Counts[num]*a.Counts[den] > a.Counts[num]*b.Counts[den] {
					place++
				}
			}
			if place > n {
				continue
			}
			size++
			rate, e := season.Average(a, kindList[num], kindList[den])
			expectOK(t, "Average", e)
			want(t, "a leader", slices.Contains(x, season.Leader{Player: a.Player, Rate: rate, Place: place}), true)
		}
		want(t, "the number of leaders", len(x), size)
		isOrdered := slices.IsSortedFunc(x, func(a, b season.Leader) int {
			if a.Place != b.Place {
				return a.Place - b.Place
			}
			return strings.Compare(a.Player, b.Player)
		})
		want(t, "leaders are in order", isOrdered, true)
	}
}

func TestParseWhatWasPrinted(t *testing.T) {
	g := newGenerator(9)
	for range 200 {
		x := g.game("g" + strings.Repeat("_", g.random.Intn(23)))
		text, e := season.Print(x)
		expectOK(t, "Print", e)
		parsed, at, e := season.Parse(text)
		want(t, "the error of Parse", []any{at, e}, []any{0, api.OK})
		wantGame(t, "a game that is parsed", parsed, x)
		for cut := range len(text) {
			_, _, e := season.Parse(text[:cut])
			isWhole := strings.HasSuffix(text[:cut], "\n")
			want(t, "a string that is cut off", e == api.OK, isWhole)
		}
	}
}
