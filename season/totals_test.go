package season_test

import (
	"math"
	"slices"
	"strconv"
	"strings"
	"testing"

	"dugout/api"
	"dugout/season"
)

const most = 999999999

// roll returns so many totals, beginning with a number; each of them has a count of errors.
func roll(from, n, errors int) []season.Total {
	var l []season.Total
	for i := from; i < from+n; i++ {
		l = append(l, total("p"+strconv.Itoa(10000+i)+" 0 e "+strconv.Itoa(errors)))
	}
	return l
}

// level returns the total of a player all of whose numbers are the same.
func level(player string, n int) season.Total {
	t := season.Total{Player: player, Games: n}
	for kind := range t.Counts {
		t.Counts[kind] = n
	}
	return t
}

// wrongTotal is a list of totals that is none, with its error.
type wrongTotal struct {
	totals []season.Total
	err    api.Errno
}

// wrongTotals returns totals that are none. Each of them has errors that come behind its own.
func wrongTotals() map[string]wrongTotal {
	large := season.Total{Player: "a", Games: most + 1}
	l := map[string]wrongTotal{
		"4097 totals":       {append([]season.Total{{}}, roll(0, 4096, 1)...), api.ErrMany},
		"no name":           {[]season.Total{total("b 1"), {Games: most + 1}, large}, api.ErrName},
		"great games":       {[]season.Total{total("b 1"), large, {}}, api.ErrRange},
		"a player twice":    {append(totals("b 1", "b 1"), season.Total{}), api.ErrOrder},
		"a wrong order":     {append(totals("b 1", "a 1"), season.Total{}), api.ErrOrder},
		"capital letters":   {append(totals("a 1", "B 1"), season.Total{}), api.ErrOrder},
		"a longer name":     {append(totals("a0 1", "a 1"), season.Total{}), api.ErrOrder},
		"the first of two":  {append(totals("b 1", "a 1"), large), api.ErrOrder},
		"the first of many": {append([]season.Total{large}, season.Total{}), api.ErrRange},
	}
	for _, s := range wrongNames {
		l["the name "+s] = wrongTotal{[]season.Total{{Player: s, Games: most + 1}}, api.ErrName}
	}
	return l
}

func TestCheckTotals(t *testing.T) {
	for what, l := range map[string][]season.Total{
		"nothing":          nil,
		"a total":          totals("a 1 ab 1"),
		"zeros":            totals("a 0"),
		"negative numbers": totals("a -1 ab -1 e 1"),
		"great numbers":    {level("a", most), level("b", -most)},
		"names by bytes":   totals("B 1", "a 1", "a0 1", "aB 1", "a_ 1", "aa 1"),
		"4096 totals":      roll(0, 4096, 1),
		"a long name":      totals(strings.Repeat("a", 24) + " 1"),
	} {
		want(t, "CheckTotals: "+what, season.CheckTotals(l), api.OK)
	}
	for what, x := range wrongTotals() {
		want(t, "CheckTotals: "+what, season.CheckTotals(x.totals), x.err)
	}
	for _, n := range beyond(-most, most) {
		want(t, "wrong games", season.CheckTotals([]season.Total{{Player: "a", Games: n}}), api.ErrRange)
		for kind := range season.MaxKinds {
			x := level("a", most)
			x.Counts[kind] = n
			want(t, "a wrong count", season.CheckTotals([]season.Total{level("a", 0), x}), api.ErrRange)
		}
	}
}

func TestTotals(t *testing.T) {
	for what, row := range map[string]struct {
		book   season.Book
		totals []season.Total
	}{
		"nothing":           {season.Book{}, nil},
		"games alone":       {schedule(0, 64), nil},
		"a game":            {book(gameG()), totals("ann 1 ab 4 h 2 r 1", "bob 1 ab 3 h 1 hr 1 r 1")},
		"no counts":         {book(game("g 1 1 a b 0 0", "ann a")), totals("ann 1")},
		"for several teams": {book(game("g 1 1 a b 0 0", "ann a h 1"), game("h 1 2 c d 0 0", "al c h 2", "ann d h 4", "bob c h 8")), totals("al 1 h 2", "ann 2 h 5", "bob 1 h 8")},
		"names by bytes":    {book(game("g 1 1 a b 0 0", "a_ a", "aa a"), game("h 1 1 a b 0 0", "B a", "a b", "a0 a", "aB a")), totals("B 1", "a 1", "a0 1", "aB 1", "a_ 1", "aa 1")},
	} {
		l, e := season.Totals(row.book)
		want(t, "the error of Totals: "+what, e, api.OK)
		want(t, "Totals: "+what, l, row.totals)
	}
	var b season.Book
	for _, g := range schedule(0, 64).Games {
		g.Lines = []season.Line{{Player: "a", Team: "cats", Counts: level("a", 999).Counts}}
		b.Games = append(b.Games, g)
	}
	l, _ := season.Totals(b)
	wanted := level("a", 64*999)
	wanted.Games = 64
	want(t, "Totals of great counts", l, []season.Total{wanted})
}

// thick returns 64 games with 60 players each, all of them others.
func thick(prefix string) []season.Game {
	l := schedule(0, 64).Games
	for i := range l {
		for k := range 60 {
			l[i].Lines = append(l[i].Lines, season.Line{Player: prefix + strconv.Itoa(10000+60*i+k), Team: "dogs"})
		}
	}
	return l
}

func TestDifference(t *testing.T) {
	g, g2, h := gameG(), gameG2(), gameH()
	for what, row := range map[string]struct {
		before, after []season.Game
		totals        []season.Total
	}{
		"nothing":              {nil, nil, nil},
		"a game more":          {nil, []season.Game{g}, totals("ann 1 ab 4 h 2 r 1", "bob 1 ab 3 h 1 hr 1 r 1")},
		"a game less":          {[]season.Game{g}, nil, totals("ann -1 ab -4 h -2 r -1", "bob -1 ab -3 h -1 hr -1 r -1")},
		"a version":            {[]season.Game{g}, []season.Game{g2}, totals("ann 0 h 1")},
		"a version back":       {[]season.Game{g2}, []season.Game{g}, totals("ann 0 h -1")},
		"the same":             {[]season.Game{g, h}, []season.Game{g, h}, nil},
		"another order":        {[]season.Game{g, h}, []season.Game{h, g}, nil},
		"other games":          {[]season.Game{g}, []season.Game{h}, totals("ann 0 h -2 r -1", "bob -1 ab -3 h -1 hr -1 r -1")},
		"the same one twice":   {[]season.Game{g}, []season.Game{g2, g2, g2}, totals("ann 2 ab 8 h 7 r 2", "bob 2 ab 6 h 2 hr 2 r 2")},
		"a game without count": {nil, []season.Game{game("g 1 1 a b 0 0", "ann a")}, totals("ann 1")},
		"one for another":      {[]season.Game{game("g 1 1 a b 0 0", "ann a e 1", "bob b")}, []season.Game{game("g 2 1 a b 0 0", "ann b e 1", "cy b")}, totals("bob -1", "cy 1")},
		"names by bytes":       {[]season.Game{game("g 1 1 a b 0 0", "a a", "aB a")}, []season.Game{game("g 2 1 a b 0 0", "B b", "a_ b")}, totals("B 1", "a -1", "aB -1", "a_ 1")},
	} {
		l, e := season.Difference(row.before, row.after)
		want(t, "the error of Difference: "+what, e, api.OK)
		want(t, "Difference: "+what, l, row.totals)
	}
	l, e := season.Difference(thick("p"), thick("q"))
	want(t, "a difference of more than 4096 players", []any{len(l), e}, []any{2 * 64 * 60, api.OK})
	if len(l) == 2*64*60 {
		want(t, "its first and last ones", []season.Total{l[0], l[len(l)-1]}, totals("p10000 -1", "q13839 1"))
	}
	many := make([]season.Game, 65)
	l, e = season.Difference(many, nil)
	want(t, "Difference of 65 games", []any{len(l), e}, []any{0, api.ErrMany})
	l, e = season.Difference(nil, append(schedule(0, 64).Games, season.Game{}))
	want(t, "Difference to 65 games", []any{len(l), e}, []any{0, api.ErrMany})
	l, e = season.Difference([]season.Game{{}}, many)
	want(t, "Difference of no game", []any{len(l), e}, []any{0, api.ErrName})
}

func TestUpdate(t *testing.T) {
	l := totals("ann 2 ab 8 h 2 r 1", "bob 1 ab 3 h 1 hr 1 r 1")
	for what, row := range map[string]struct {
		before, difference, after []season.Total
	}{
		"nothing":              {nil, nil, nil},
		"no difference":        {l, nil, l},
		"nothing before":       {nil, l, l},
		"a hit":                {l, totals("ann 0 h 1"), totals("ann 2 ab 8 h 3 r 1", "bob 1 ab 3 h 1 hr 1 r 1")},
		"a player more":        {l, totals("ayn 1 e 1"), totals("ann 2 ab 8 h 2 r 1", "ayn 1 e 1", "bob 1 ab 3 h 1 hr 1 r 1")},
		"a player less":        {l, totals("ann -2 ab -8 h -2 r -1"), totals("bob 1 ab 3 h 1 hr 1 r 1")},
		"games alone are left": {l, totals("ann 0 ab -8 h -2 r -1"), totals("ann 2", "bob 1 ab 3 h 1 hr 1 r 1")},
		"counts alone":         {l, totals("ann -2 ab -8 h -2"), totals("ann 0 r 1", "bob 1 ab 3 h 1 hr 1 r 1")},
		"zeros":                {totals("a 0", "b 1"), totals("b 0", "c 0"), totals("b 1")},
		"negative numbers":     {totals("a 0 e -1"), totals("a 1 e -1", "b -1"), totals("a 1 e -2", "b -1")},
		"up to the limit":      {[]season.Total{level("a", most-1)}, []season.Total{level("a", 1)}, []season.Total{level("a", most)}},
		"down to the limit":    {[]season.Total{level("a", 1-most)}, []season.Total{level("a", -1)}, []season.Total{level("a", -most)}},
		"from limit to limit":  {[]season.Total{level("a", most)}, []season.Total{level("a", -most)}, nil},
		"4096 players":         {roll(0, 2048, 1), roll(2048, 2048, 1), roll(0, 4096, 1)},
		"4096 players twice":   {roll(0, 4096, 1), roll(0, 4096, 1), roll(0, 4096, 2)},
		"one comes, one goes":  {roll(0, 4096, 1), append(totals("p10000 0 e -1"), roll(4096, 1, 1)...), roll(1, 4096, 1)},
	} {
		u, e := season.Update(row.before, row.difference)
		want(t, "the error of Update: "+what, e, api.OK)
		want(t, "Update: "+what, u, row.after)
	}
}

func TestUpdateErrors(t *testing.T) {
	for what, row := range map[string]struct {
		before, difference []season.Total
		err                api.Errno
	}{
		"4097 players":           {roll(0, 4096, 1), roll(4096, 1, 1), api.ErrMany},
		"8192 players":           {roll(0, 4096, 1), roll(4096, 4096, 1), api.ErrMany},
		"4097 players, too much": {roll(0, 4096, most), append(roll(0, 1, 1), roll(4096, 1, 1)...), api.ErrMany},
		"too much":               {roll(0, 4096, most), roll(4095, 1, 1), api.ErrRange},
		"too little":             {roll(0, 2, -most), roll(0, 1, -1), api.ErrRange},
		"too many games":         {totals("a 999999999"), totals("a 1"), api.ErrRange},
		"too few games":          {totals("a -1"), totals("a -999999999"), api.ErrRange},
		"twice the limit":        {[]season.Total{level("a", most)}, []season.Total{level("a", most)}, api.ErrRange},
	} {
		u, e := season.Update(row.before, row.difference)
		want(t, "Update: "+what, []any{len(u), e}, []any{0, row.err})
	}
	for kind := range season.MaxKinds {
		x := total("a 1")
		x.Counts[kind] = 1
		u, e := season.Update([]season.Total{level("a", most), level("b", 0)}, []season.Total{{Player: "a", Counts: x.Counts}})
		want(t, "Update of a count beyond the limit", []any{len(u), e}, []any{0, api.ErrRange})
	}
}

// All functions return the error of totals before that of any other argument.
func TestWrongTotals(t *testing.T) {
	many := make([]season.Total, 4097)
	for what, x := range wrongTotals() {
		l, e := season.Update(x.totals, many)
		want(t, "Update: "+what, []any{len(l), e}, []any{0, x.err})
		l, e = season.Update(totals("a 1"), x.totals)
		want(t, "Update with it: "+what, []any{len(l), e}, []any{0, x.err})
		leaders, e := season.Leaders(x.totals, "", "", -1, -1)
		want(t, "Leaders: "+what, []any{len(leaders), e}, []any{0, x.err})
	}
}

// wrongKinds are strings that are not kinds.
var wrongKinds = []string{"", "AB", "H", "a", "abh", "ab ", "x", "\xff", "0"}

func TestAverage(t *testing.T) {
	x := total("ann 12 ab 8 h 2 d 0 t -6 hr 4 r -9 rbi 999999999 w -999999999 k 999999998 sb 1 po -4 e 7")
	for _, row := range []struct {
		num, den string
		n, d     int
	}{
		{"h", "ab", 1, 4}, {"ab", "h", 4, 1}, {"d", "ab", 0, 1}, {"d", "t", 0, 1}, {"t", "hr", -3, 2}, {"hr", "t", -2, 3}, {"t", "r", 2, 3}, {"ab", "ab", 1, 1}, {"t", "t", 1, 1},
		{"rbi", "w", -1, 1}, {"w", "rbi", -1, 1}, {"k", "rbi", 999999998, 999999999}, {"w", "k", -999999999, 999999998}, {"sb", "w", -1, 999999999}, {"po", "e", -4, 7}, {"e", "po", -7, 4}, {"r", "sb", -9, 1},
	} {
		r, e := season.Average(x, row.num, row.den)
		want(t, "Average of "+row.num+" and "+row.den, []any{r, e}, []any{api.Ratio{Num: row.n, Den: row.d}, api.OK})
	}
	one := func(kind string) int { return x.Counts[slices.Index(kindList, kind)] }
	for _, kind := range kindList {
		r, e := season.Average(x, kind, "sb")
		want(t, "Average of "+kind, []any{r, e}, []any{api.Ratio{Num: one(kind), Den: 1}, api.OK})
	}
}

func TestAverageErrors(t *testing.T) {
	x := total("ann 2 ab 8 h 2")
	for _, row := range []struct {
		total    season.Total
		num, den string
		err      api.Errno
	}{
		{x, "h", "d", api.ErrZero}, {x, "d", "d", api.ErrZero}, {total("ann 0"), "ab", "h", api.ErrZero},
		{season.Total{Player: "1", Games: most + 1}, "", "", api.ErrName}, {season.Total{Games: -most - 1}, "h", "ab", api.ErrName},
		{season.Total{Player: "a", Games: most + 1}, "", "", api.ErrRange}, {season.Total{Player: "a", Games: math.MinInt}, "h", "d", api.ErrRange},
		{level("a", most+1), "h", "ab", api.ErrRange}, {level("a", math.MinInt), "", "", api.ErrRange},
	} {
		r, e := season.Average(row.total, row.num, row.den)
		want(t, "Average of "+row.num+" and "+row.den, []any{r, e}, []any{api.Ratio{}, row.err})
	}
	for _, kind := range wrongKinds {
		r, e := season.Average(x, kind, "d")
		want(t, "Average of "+kind, []any{r, e}, []any{api.Ratio{}, api.ErrKind})
		r, e = season.Average(x, "h", kind)
		want(t, "Average by "+kind, []any{r, e}, []any{api.Ratio{}, api.ErrKind})
	}
}
