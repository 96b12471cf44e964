package season_test

import (
	"strconv"
	"testing"

	"dugout/api"
	"dugout/season"
)

// versioned returns the game G in a version.
func versioned(n int) season.Game {
	return with(func(g *season.Game) { g.Version = n })
}

func TestPut(t *testing.T) {
	early, late := game("z 1 0 a b 0 1"), game("a 1 99999 a b 0 1")
	for what, row := range map[string]struct {
		before season.Book
		game   season.Game
		after  season.Book
	}{
		"the first one":     {season.Book{}, gameG(), book(gameG())},
		"in front":          {both(), early, book(early, gameG(), gameH())},
		"behind":            {both(), late, book(gameG(), gameH(), late)},
		"between":           {book(early, late), gameG(), book(early, gameG(), late)},
		"before, by name":   {both(), game("f9 1 5 a b 0 0"), book(game("f9 1 5 a b 0 0"), gameG(), gameH())},
		"behind, by name":   {both(), game("g10 1 5 a b 0 0"), book(gameG(), game("g10 1 5 a b 0 0"), gameH())},
		"by bytes":          {both(), game("Z 1 6 a b 0 0"), book(gameG(), game("Z 1 6 a b 0 0"), gameH())},
		"the 64th":          {schedule(1, 63), game("s1000 1 0 cats dogs 1 0"), schedule(0, 64)},
		"a version 2 there": {book(gameG2()), gameH(), book(gameG2(), gameH())},
	} {
		b, e := season.Put(row.before, row.game)
		want(t, "the error of Put: "+what, e, api.OK)
		wantBook(t, "Put: "+what, b, row.after)
	}
	full := schedule(0, 64)
	for what, row := range map[string]struct {
		book season.Book
		game season.Game
		err  api.Errno
	}{
		"a game that is there":         {both(), gameG(), api.ErrTwice},
		"the next version of one":      {both(), gameG2(), api.ErrTwice},
		"a name that is there":         {both(), game("g1 1 70 a b 0 0"), api.ErrTwice},
		"one that is there, too many":  {full, game("s1007 1 7 cats dogs 1 0"), api.ErrTwice},
		"another version, too many":    {full, game("s1007 2 7 cats dogs 1 0"), api.ErrTwice},
		"the version 2":                {both(), game("g3 2 7 a b 0 0"), api.ErrVersion},
		"the greatest version":         {season.Book{}, game("g3 999999999 7 a b 0 0"), api.ErrVersion},
		"the version 2, too many":      {full, game("g3 2 7 a b 0 0"), api.ErrVersion},
		"too many":                     {full, game("g3 1 7 a b 0 0"), api.ErrMany},
		"too many, not there any more": {full, gameG(), api.ErrMany},
	} {
		b, e := season.Put(row.book, row.game)
		want(t, "Put: "+what, []any{len(b.Games), e}, []any{0, row.err})
	}
}

func TestReplace(t *testing.T) {
	moved := game("g1 2 7 dogs birds 0 0", "cy birds ab 1")
	for what, row := range map[string]struct {
		before season.Book
		game   season.Game
		after  season.Book
	}{
		"the next version":     {both(), gameG2(), book(gameG2(), gameH())},
		"another day":          {both(), moved, book(gameH(), moved)},
		"the day of another":   {both(), game("g1 2 6 a b 0 0"), book(game("g1 2 6 a b 0 0"), gameH())},
		"behind, by name":      {book(gameH(), game("z 1 8 a b 0 0")), game("z 2 6 a b 0 0"), book(gameH(), game("z 2 6 a b 0 0"))},
		"one of 64":            {schedule(0, 64), game("s1063 2 63 cats dogs 1 0"), book(append(schedule(0, 63).Games, game("s1063 2 63 cats dogs 1 0"))...)},
		"the greatest version": {book(versioned(999999998)), versioned(999999999), book(versioned(999999999))},
	} {
		b, e := season.Replace(row.before, row.game)
		want(t, "the error of Replace: "+what, e, api.OK)
		wantBook(t, "Replace: "+what, b, row.after)
	}
	for what, row := range map[string]struct {
		book season.Book
		game season.Game
		err  api.Errno
	}{
		"no games":                   {season.Book{}, gameG2(), api.ErrUnknown},
		"a game that is not there":   {book(gameH()), gameG2(), api.ErrUnknown},
		"one with a longer name":     {both(), game("g10 2 5 a b 0 0"), api.ErrUnknown},
		"the same version":           {both(), gameG(), api.ErrVersion},
		"a version too late":         {both(), versioned(3), api.ErrVersion},
		"a version before":           {book(versioned(3)), versioned(2), api.ErrVersion},
		"the version 1 again":        {book(versioned(999999999)), versioned(1), api.ErrVersion},
		"the greatest version again": {book(versioned(999999999)), versioned(999999999), api.ErrVersion},
	} {
		b, e := season.Replace(row.book, row.game)
		want(t, "Replace: "+what, []any{len(b.Games), e}, []any{0, row.err})
	}
}

func TestRemove(t *testing.T) {
	for name, left := range map[string]season.Book{"g1": book(gameH()), "g2": book(gameG())} {
		b, e := season.Remove(both(), name)
		want(t, "the error of Remove", e, api.OK)
		wantBook(t, "Remove "+name, b, left)
	}
	b, e := season.Remove(book(gameG2()), "g1")
	want(t, "Remove the only game", []any{len(b.Games), e}, []any{0, api.OK})
	b, e = season.Remove(schedule(0, 64), "s1000")
	want(t, "the error of Remove", e, api.OK)
	wantBook(t, "Remove one of 64", b, schedule(1, 63))
	for _, name := range []string{"g3", "g", "G1", "g10"} {
		b, e := season.Remove(both(), name)
		want(t, "Remove "+name, []any{len(b.Games), e}, []any{0, api.ErrUnknown})
	}
	for _, name := range wrongNames {
		b, e := season.Remove(both(), name)
		want(t, "Remove "+name, []any{len(b.Games), e}, []any{0, api.ErrName})
	}
}

func TestMerge(t *testing.T) {
	moved := game("g1 2 7 dogs birds 0 0", "cy birds ab 1")
	sixth, tenth := game("g1 2 6 cats dogs 3 2"), game("g1 2 10 cats dogs 3 2")
	for what, row := range map[string]struct {
		a, b, both season.Book
	}{
		"nothing":                    {season.Book{}, season.Book{}, season.Book{}},
		"nothing more":               {both(), season.Book{}, both()},
		"the same":                   {both(), both(), both()},
		"different games":            {book(gameH()), book(gameG()), both()},
		"games in turns":             {book(schedule(0, 64).Games[:20]...), book(schedule(0, 64).Games[10:]...), schedule(0, 64)},
		"a higher version":           {both(), book(gameG2()), book(gameG2(), gameH())},
		"a higher version elsewhere": {both(), book(moved), book(gameH(), moved)},
		"a version that is higher by more, with a greater string": {book(versioned(9)), book(versioned(10)), book(versioned(10))},
		"the string that is less, by bytes":                       {book(sixth), book(tenth), book(tenth)},
		"the string that is less, by a score":                     {book(game("g 1 1 a b 9 0")), book(game("g 1 1 a b 10 0")), book(game("g 1 1 a b 10 0"))},
		"the string that is less, by a team":                      {book(game("g 1 1 b a 0 0")), book(game("g 1 1 a b 0 0")), book(game("g 1 1 a b 0 0"))},
		"the string that is less, as a part":                      {book(gameG()), book(game("g1 1 5 cats dogs 3 2", "ann cats ab 4 h 2 r 1")), book(game("g1 1 5 cats dogs 3 2", "ann cats ab 4 h 2 r 1"))},
		"the string that is less, by a count":                     {book(gameG()), book(with(func(g *season.Game) { g.Lines[1].Counts[0] = 10 })), book(with(func(g *season.Game) { g.Lines[1].Counts[0] = 10 }))},
		"a string that is greater, of a higher version":           {book(game("g 1 1 a b 0 0")), book(game("g 2 9 b a 9 9")), book(game("g 2 9 b a 9 9"))},
		"one of each":    {book(gameG2(), gameH()), book(gameG(), game("g2 2 6 dogs cats 1 2")), book(gameG2(), game("g2 2 6 dogs cats 1 2"))},
		"64 games":       {schedule(0, 32), schedule(32, 32), schedule(0, 64)},
		"64 games twice": {schedule(0, 64), schedule(0, 64), schedule(0, 64)},
	} {
		b, e := season.Merge(row.a, row.b)
		want(t, "the error of Merge: "+what, e, api.OK)
		wantBook(t, "Merge: "+what, b, row.both)
		b, e = season.Merge(row.b, row.a)
		want(t, "the error of Merge the other way: "+what, e, api.OK)
		wantBook(t, "Merge the other way: "+what, b, row.both)
	}
	for _, n := range []int{33, 64} {
		b, e := season.Merge(schedule(0, 32), schedule(32, n))
		want(t, "Merge of too many games", []any{len(b.Games), e}, []any{0, api.ErrMany})
	}
}

func TestBetween(t *testing.T) {
	all := schedule(3, 5)
	for _, row := range []struct{ from, to, low, high int }{
		{0, 99999, 0, 5}, {3, 7, 0, 5}, {4, 7, 1, 5}, {3, 6, 0, 4}, {5, 5, 2, 3}, {0, 2, 0, 0}, {8, 99999, 0, 0}, {0, 3, 0, 1}, {7, 7, 4, 5}, {0, 0, 0, 0}, {99999, 99999, 0, 0},
	} {
		b, e := season.Between(all, row.from, row.to)
		want(t, "the error of Between", e, api.OK)
		wantBook(t, "Between "+strconv.Itoa(row.from)+" and "+strconv.Itoa(row.to), b, season.Book{Games: all.Games[row.low:row.high]})
	}
	limits := book(game("a 1 0 a b 0 0"), game("z 1 99999 a b 0 0"))
	b, _ := season.Between(limits, 0, 99999)
	wantBook(t, "Between the limits", b, limits)
	for _, row := range []struct {
		from, to int
		err      api.Errno
	}{
		{1, 0, api.ErrOrder}, {99999, 99998, api.ErrOrder}, {-1, 0, api.ErrRange}, {0, -1, api.ErrRange}, {100000, 99999, api.ErrRange}, {99999, 100000, api.ErrRange}, {5, -1, api.ErrRange}, {-5, 5, api.ErrRange},
	} {
		b, e := season.Between(all, row.from, row.to)
		want(t, "Between", []any{row.from, row.to, len(b.Games), e}, []any{row.from, row.to, 0, row.err})
	}
}
