package lineup_test

import (
	"math"
	"reflect"
	"strings"
	"testing"

	"dugout/api"
	"dugout/lineup"
	"dugout/play"
)

// want reports a result that is not the expected one; nil and empty lists are equal, and nil alone stands for both.
func want(t *testing.T, what string, got, wanted any) {
	t.Helper()
	a, b := reflect.ValueOf(got), reflect.ValueOf(wanted)
	if a.Kind() == reflect.Slice && a.Len() == 0 && (wanted == nil || b.Kind() == reflect.Slice && b.Len() == 0) {
		return
	}
	if !reflect.DeepEqual(got, wanted) {
		t.Errorf("%s: got %v, want %v", what, got, wanted)
	}
}

// teams returns the teams T of the document's examples.
func teams() lineup.Teams {
	positions := [9]int{2, 3, 4, 5, 6, 7, 8, 9, 1}
	return lineup.Teams{
		{Batters: [9]string{"a1", "a2", "a3", "a4", "a5", "a6", "a7", "a8", "a9"}, Positions: positions},
		{Batters: [9]string{"b1", "b2", "b3", "b4", "b5", "b6", "b7", "b8", "b9"}, Positions: positions},
	}
}

// with returns the teams of the examples, changed.
func with(change func(*lineup.Teams)) lineup.Teams {
	t := teams()
	change(&t)
	return t
}

// at returns a change.
func at(play, side, slot int, player string, position int) lineup.Change {
	return lineup.Change{Side: side, Play: play, Slot: slot, Player: player, Position: position}
}

// calls returns the changes L of the document's examples, and further ones.
func calls(more ...lineup.Change) []lineup.Change {
	return append([]lineup.Change{at(2, 1, 1, "c1", 9), at(2, 1, 8, "b8", 2), at(4, 1, 9, "c9", 1)}, more...)
}

// plays returns the plays of strings, each of them as often as the number before it says.
func plays(t *testing.T, list ...any) []api.Play {
	t.Helper()
	var l []api.Play
	times := 1
	for _, x := range list {
		switch x := x.(type) {
		case int:
			times = x
		case string:
			for range times {
				p, _, e := play.Parse(x)
				if e != api.OK {
					t.Fatalf("play.Parse(%q): error %d", x, e)
				}
				l = append(l, p)
			}
			times = 1
		}
	}
	return l
}

// wrongTeams returns teams that are not valid, with their errors.
func wrongTeams() map[string]struct {
	teams lineup.Teams
	err   api.Errno
} {
	type row = struct {
		teams lineup.Teams
		err   api.Errno
	}
	return map[string]row{
		"nobody":                        {lineup.Teams{}, api.ErrName},
		"nobody on side 1":              {with(func(t *lineup.Teams) { t[1] = lineup.Lineup{} }), api.ErrName},
		"a digit as a name":             {with(func(t *lineup.Teams) { t[0].Batters[8] = "9" }), api.ErrName},
		"a name with a blank":           {with(func(t *lineup.Teams) { t[1].Batters[0] = "b 1" }), api.ErrName},
		"a name of 25 bytes":            {with(func(t *lineup.Teams) { t[0].Batters[3] = strings.Repeat("a", 25) }), api.ErrName},
		"a player twice":                {with(func(t *lineup.Teams) { t[1].Batters[4] = "b1" }), api.ErrTwice},
		"a player twice at the end":     {with(func(t *lineup.Teams) { t[0].Batters[8] = "a8" }), api.ErrTwice},
		"position 10":                   {with(func(t *lineup.Teams) { t[0].Positions[3] = 10 }), api.ErrRange},
		"position 0":                    {with(func(t *lineup.Teams) { t[1].Positions[8] = 0 }), api.ErrRange},
		"the least position":            {with(func(t *lineup.Teams) { t[1].Positions[0] = math.MinInt }), api.ErrRange},
		"a position twice":              {with(func(t *lineup.Teams) { t[0].Positions[3] = 2 }), api.ErrConflict},
		"a position twice at the end":   {with(func(t *lineup.Teams) { t[1].Positions[8] = 9 }), api.ErrConflict},
		"a player on both sides":        {with(func(t *lineup.Teams) { t[1].Batters[4] = "a9" }), api.ErrTwice},
		"no name, then twice":           {with(func(t *lineup.Teams) { t[0].Batters[0], t[0].Batters[2] = "", "a2" }), api.ErrName},
		"twice, then no name":           {with(func(t *lineup.Teams) { t[0].Batters[1], t[0].Batters[2] = "a1", "" }), api.ErrTwice},
		"no name before positions":      {with(func(t *lineup.Teams) { t[0].Batters[8], t[0].Positions[0] = "", 0 }), api.ErrName},
		"twice before positions":        {with(func(t *lineup.Teams) { t[0].Batters[8], t[0].Positions[0] = "a1", 0 }), api.ErrTwice},
		"a range, then a conflict":      {with(func(t *lineup.Teams) { t[0].Positions[1], t[0].Positions[2] = 10, 2 }), api.ErrRange},
		"a conflict, then a range":      {with(func(t *lineup.Teams) { t[0].Positions[1], t[0].Positions[2] = 2, 10 }), api.ErrConflict},
		"side 0 before side 1":          {with(func(t *lineup.Teams) { t[0].Positions[0], t[1].Batters[0] = 1, "" }), api.ErrConflict},
		"side 1 before both":            {with(func(t *lineup.Teams) { t[1].Positions[0], t[1].Batters[0] = 0, "a1" }), api.ErrRange},
		"a conflict of side 1, on both": {with(func(t *lineup.Teams) { t[1].Positions[0], t[1].Batters[0] = 1, "a1" }), api.ErrConflict},
	}
}

// wrongChanges returns lists of changes that are not valid for the teams of the examples, with their errors.
func wrongChanges() map[string]struct {
	changes []lineup.Change
	err     api.Errno
} {
	type row = struct {
		changes []lineup.Change
		err     api.Errno
	}
	one := func(c lineup.Change) []lineup.Change { return []lineup.Change{c} }
	return map[string]row{
		"65 changes":                      {make([]lineup.Change, 65), api.ErrMany},
		"64 changes, none of them right":  {make([]lineup.Change, 64), api.ErrRange},
		"side 2":                          {one(at(-1, 2, 0, "", 0)), api.ErrSide},
		"side -1":                         {one(at(0, -1, 1, "c", 2)), api.ErrSide},
		"the greatest side":               {one(at(0, math.MaxInt, 1, "c", 2)), api.ErrSide},
		"play -1":                         {one(at(-1, 0, 1, "c", 2)), api.ErrRange},
		"play 257":                        {one(at(257, 0, 1, "c", 2)), api.ErrRange},
		"slot 0":                          {one(at(0, 0, 0, "c", 2)), api.ErrRange},
		"slot 10":                         {one(at(0, 0, 10, "c", 2)), api.ErrRange},
		"position 0":                      {one(at(0, 0, 1, "c", 0)), api.ErrRange},
		"position 10":                     {one(at(0, 0, 1, "c", 10)), api.ErrRange},
		"a play, and no name":             {one(at(257, 0, 1, "", 2)), api.ErrRange},
		"a slot, and no name":             {one(at(0, 0, 10, "", 2)), api.ErrRange},
		"a position, and no name":         {one(at(0, 0, 1, "", 10)), api.ErrRange},
		"no name":                         {one(at(0, 0, 1, "", 2)), api.ErrName},
		"a wrong name":                    {one(at(0, 0, 1, "1c", 2)), api.ErrName},
		"no name, and a wrong order":      {calls(at(3, 0, 1, "?", 2)), api.ErrName},
		"an earlier play":                 {calls(at(3, 1, 1, "d", 9)), api.ErrOrder},
		"an earlier side":                 {calls(at(4, 0, 9, "d", 1)), api.ErrOrder},
		"an earlier slot":                 {calls(at(4, 1, 8, "d", 2)), api.ErrOrder},
		"the same slot":                   {calls(at(4, 1, 9, "d", 1)), api.ErrOrder},
		"a wrong order, and nothing new":  {calls(at(4, 1, 9, "c9", 1)), api.ErrOrder},
		"a wrong order, and who was in":   {calls(at(4, 1, 9, "b9", 1)), api.ErrOrder},
		"nothing new":                     {one(at(0, 0, 1, "a1", 2)), api.ErrTwice},
		"nothing new behind a change":     {calls(at(5, 1, 1, "c1", 9)), api.ErrTwice},
		"nothing new, and a conflict":     {[]lineup.Change{at(0, 0, 1, "c", 3), at(0, 0, 2, "a2", 3)}, api.ErrTwice},
		"who is on the other side":        {one(at(0, 0, 1, "b1", 2)), api.ErrPlayer},
		"who has another slot":            {one(at(0, 0, 1, "a2", 2)), api.ErrPlayer},
		"who was in the slot":             {calls(at(5, 1, 9, "b9", 1)), api.ErrPlayer},
		"who was in another slot":         {calls(at(5, 1, 9, "b1", 1)), api.ErrPlayer},
		"who came in for the other side":  {calls(at(5, 0, 9, "c9", 1)), api.ErrPlayer},
		"who came in and left":            {calls(at(5, 1, 9, "d9", 1), at(6, 1, 9, "c9", 1)), api.ErrPlayer},
		"who came in before the play":     {[]lineup.Change{at(0, 0, 1, "c", 2), at(0, 1, 1, "c", 2)}, api.ErrPlayer},
		"who leaves in the same call":     {[]lineup.Change{at(0, 0, 1, "c", 3), at(0, 0, 2, "a1", 2)}, api.ErrPlayer},
		"who was in, and a conflict":      {calls(at(5, 1, 9, "b9", 2)), api.ErrPlayer},
		"half of an exchange":             {calls()[:1], api.ErrConflict},
		"the other half":                  {calls()[1:], api.ErrConflict},
		"a conflict, then a wrong change": {[]lineup.Change{at(0, 0, 1, "c", 3), at(9, 7, 2, "", 0)}, api.ErrConflict},
		"a conflict, then another side":   {[]lineup.Change{at(0, 0, 1, "c", 3), at(0, 1, 1, "d", 3)}, api.ErrConflict},
		"a conflict, then another play":   {[]lineup.Change{at(0, 0, 1, "c", 3), at(1, 0, 2, "a2", 2)}, api.ErrConflict},
		"a conflict, then side 0 again":   {[]lineup.Change{at(0, 1, 1, "c", 3), at(1, 0, 1, "d", 2)}, api.ErrConflict},
		"a conflict of three":             {[]lineup.Change{at(0, 0, 1, "a1", 3), at(0, 0, 2, "a2", 4), at(0, 0, 3, "a3", 3)}, api.ErrConflict},
		"a call that goes on wrong":       {[]lineup.Change{at(0, 0, 1, "c", 3), at(0, 0, 2, "", 2)}, api.ErrName},
		"a call that goes on backwards":   {[]lineup.Change{at(0, 0, 2, "c", 2), at(0, 0, 1, "a1", 3)}, api.ErrOrder},
		"the first error of two changes":  {[]lineup.Change{at(0, 0, 1, "", 2), at(0, 2, 2, "c", 2)}, api.ErrName},
	}
}

// refused expects all functions of teams and changes to return an error, whatever their other arguments are.
func refused(t *testing.T, what string, x lineup.Teams, l []lineup.Change, err api.Errno) {
	t.Helper()
	wrong := make([]api.Play, api.MaxPlays+1)
	now, e := lineup.At(x, l, -1)
	want(t, what+", At", []any{now, e}, []any{lineup.Teams{}, err})
	all, e := lineup.Names(x, l)
	want(t, what+", Names", []any{len(all[0]), len(all[1]), e}, []any{0, 0, err})
	who, e := lineup.Who(x, l, -1, 2, 0)
	want(t, what+", Who", []any{who, e}, []any{"", err})
	slot, e := lineup.SlotOf(x, l, -1, 2, "")
	want(t, what+", SlotOf", []any{slot, e}, []any{0, err})
	gone, e := lineup.Gone(x, l, -1, 2)
	want(t, what+", Gone", []any{len(gone), e}, []any{0, err})
	stints, e := lineup.Stints(x, l, -1)
	want(t, what+", Stints", []any{len(stints), e}, []any{0, err})
	stints, e = lineup.Pitchers(x, l, -1, 2)
	want(t, what+", Pitchers", []any{len(stints), e}, []any{0, err})
	played, e := lineup.Played(x, l, -1, "")
	want(t, what+", Played", []any{played, e}, []any{0, err})
	turns, e := lineup.Turns(x, l, wrong)
	want(t, what+", Turns", []any{len(turns), e}, []any{0, err})
	handlers, e := lineup.Handlers(x, l, wrong)
	want(t, what+", Handlers", []any{len(handlers), e}, []any{0, err})
	now, changes, e := lineup.Swap(x, l)
	want(t, what+", Swap", []any{now, len(changes), e}, []any{lineup.Teams{}, 0, err})
	now, changes, e = lineup.Split(x, l, -1)
	want(t, what+", Split", []any{now, len(changes), e}, []any{lineup.Teams{}, 0, err})
	text, e := lineup.Print(x, l)
	want(t, what+", Print", []any{text, e}, []any{"", err})
}

func TestWrongTeams(t *testing.T) {
	for what, x := range wrongTeams() {
		want(t, what+", CheckTeams", lineup.CheckTeams(x.teams), x.err)
		want(t, what+", CheckChanges", lineup.CheckChanges(x.teams, make([]lineup.Change, 65)), x.err)
		refused(t, what, x.teams, make([]lineup.Change, 65), x.err)
	}
}

func TestWrongChanges(t *testing.T) {
	for what, x := range wrongChanges() {
		want(t, what+", CheckChanges", lineup.CheckChanges(teams(), x.changes), x.err)
		refused(t, what, teams(), x.changes, x.err)
	}
}

func TestNothingPanics(t *testing.T) {
	numbers := []int{math.MinInt, math.MinInt + 1, -1, 0, 1, 2, 9, 10, 256, 257, math.MaxInt}
	names := []string{"", "a1", "c", "\x00\xff", "a b", strings.Repeat("a", 5000)}
	for _, n := range numbers {
		for _, m := range numbers {
			for _, s := range names {
				wrong := lineup.Teams{{Batters: [9]string{s}, Positions: [9]int{n, m}}, teams()[1]}
				for _, x := range []lineup.Teams{teams(), wrong} {
					for _, l := range [][]lineup.Change{nil, calls(), {at(n, m, 1, s, 2)}, {at(0, 0, n, s, m)}, {at(0, 0, 1, "c", 2), at(n, 1, m, s, 2)}} {
						callAll(x, l, n, m, s)
					}
				}
			}
		}
	}
}

// callAll calls every function with arguments of any form.
func callAll(x lineup.Teams, l []lineup.Change, n, m int, s string) {
	moves := []api.Move{{From: n, To: m, How: s, By: []int{m, n}}}
	game := []api.Play{{Pitches: s, Event: "X", Moves: moves}}
	lineup.CheckLineup(x[0])
	lineup.CheckTeams(x)
	lineup.CheckChanges(x, l)
	lineup.At(x, l, n)
	lineup.Names(x, l)
	lineup.Who(x, l, n, m, n)
	lineup.Who(x, l, 1, n, m)
	lineup.SlotOf(x, l, n, m, s)
	lineup.Gone(x, l, n, m)
	lineup.Stints(x, l, n)
	lineup.Pitchers(x, l, n, m)
	lineup.Played(x, l, n, s)
	lineup.Turns(x, l, game)
	lineup.Handlers(x, l, game)
	lineup.Deviate(x[0], n, []string{s})
	lineup.Improper(x[0], n, []string{s})
	lineup.Swap(x, l)
	lineup.Split(x, l, n)
	lineup.Print(x, l)
	lineup.Parse(s)
}

// Arguments stay as they are, and results are memory of their own.
func TestMemory(t *testing.T) {
	l := calls(at(4, 1, 9, "", 0))[:3:4]
	game := plays(t, "X X 0-1b:6", "X X 1x2f:64 0x1f:43")
	before := append([]lineup.Change(nil), l[:4]...)
	check := func(what string) {
		t.Helper()
		want(t, "the changes behind "+what, l[:4], before)
		want(t, "the plays behind "+what, game, plays(t, "X X 0-1b:6", "X X 1x2f:64 0x1f:43"))
	}
	first, _ := lineup.Names(teams(), l)
	first[0][0], first[1][10] = "z", "z"
	first[0] = append(first[0], "z")
	again, _ := lineup.Names(teams(), l)
	want(t, "Names again", []string{again[0][0], again[1][0], again[1][10]}, []string{"a1", "b1", "c9"})
	check("Names")
	_, swapped, _ := lineup.Swap(teams(), l)
	swapped[0].Player = "z"
	check("Swap")
	_, rest, _ := lineup.Split(teams(), l, 0)
	rest[0].Player = "z"
	check("Split")
	handlers, _ := lineup.Handlers(teams(), l, game)
	handlers[0][0][0], handlers[1][0][1] = "z", "z"
	handlers, _ = lineup.Handlers(teams(), l, game)
	want(t, "Handlers again", handlers, [][][]string{{{"b5"}}, {{"b5", "b3"}, {"b3", "b2"}}})
	lineup.Turns(teams(), l, game)
	lineup.Stints(teams(), l, 6)
	lineup.Pitchers(teams(), l, 6, 1)
	lineup.Print(teams(), l)
	check("all others")
	came := []string{"a8", "a9", "a2"}
	lineup.Deviate(teams()[0], 8, came)
	lineup.Improper(teams()[0], 8, came)
	want(t, "the names that came up", came, []string{"a8", "a9", "a2"})
}
