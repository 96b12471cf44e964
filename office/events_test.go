package office_test

import (
	"math"
	"slices"
	"strconv"
	"strings"
	"testing"

	"dugout/api"
	"dugout/office"
)

// rightLines are the rests of the bodies of events that are right by themselves.
var rightLines = []string{
	"open g v h 1", "open g g g 0", "open G_1 v h 999999999",
	"play g 1 - -", "play g 0 X X 0-1b:6", "play g 1 X X late 3-4b 0x1c:8", "play g 1 X X late 0-4b", "play g 1 BBBBBBBB W",
	"change g 1 0 - -", "change g 1 999999999 X X 0x1f:63",
	"drop g 1", "close g 1", "undo",
	"judge g life 2 0 0 0 6", "judge g lives 0 9 8 7 999999999", "reverse g hit 2 0 0 1 0", "reverse judge undo 1 1 1 1 1",
}

func TestCheckEvent(t *testing.T) {
	for _, line := range rightLines {
		for _, n := range []int{1, 2, 999, 1000} {
			want(t, line, office.CheckEvent(event(n, line)), api.OK)
		}
		for _, n := range []int{0, -1, 1001, math.MinInt, math.MaxInt} {
			want(t, line, office.CheckEvent(event(n, line)), api.ErrRange)
		}
	}
	for _, kind := range []string{"", "Open", "opens", "pla", "play ", " play", "state", "games", "hit", "\xff"} {
		e := event(1, "play g 1 - -")
		e.Kind = kind
		want(t, "the kind "+kind, office.CheckEvent(e), api.ErrKind)
	}
	long := strings.Repeat("z", 24)
	want(t, "long names", office.CheckEvent(event(1, "open "+long+" "+long+" "+long+" 1")), api.OK)
}

// shaped returns an event of a kind with so many names and values, all of them right.
func shaped(kind string, names, values int) api.Event {
	e := api.Event{Number: 1, Kind: kind, Names: slices.Repeat([]string{"g"}, names), Values: slices.Repeat([]int{1}, values)}
	if kind == "play" || kind == "change" {
		e.Text = "- -"
	}
	return e
}

func TestCheckEventShapes(t *testing.T) {
	for _, kind := range kindList {
		for names := range 5 {
			for values := range 7 {
				wanted := api.ErrShape
				if shapes[kind] == [2]int{names, values} {
					wanted = api.OK
				}
				want(t, "the shape of "+kind, []any{names, values, office.CheckEvent(shaped(kind, names, values))}, []any{names, values, wanted})
			}
		}
	}
}

func TestCheckEventParts(t *testing.T) {
	for _, kind := range kindList {
		shape := shapes[kind]
		for at := range shape[0] {
			for _, name := range []string{"", "1", "_", "a b", "a-b", " a", "a\n", "\xff", "é", strings.Repeat("z", 25)} {
				e := shaped(kind, shape[0], shape[1])
				e.Names[at] = name
				want(t, "a name of "+kind, []any{name, office.CheckEvent(e)}, []any{name, api.ErrName})
			}
		}
		for at := range shape[1] {
			for _, n := range []int{-1, 1000000000, math.MinInt, math.MaxInt} {
				e := shaped(kind, shape[0], shape[1])
				e.Values[at] = n
				want(t, "a value of "+kind, []any{n, office.CheckEvent(e)}, []any{n, api.ErrRange})
			}
		}
	}
}

func TestCheckEventTexts(t *testing.T) {
	wrong := []string{"x", " ", "\n", "-", "- - ", " - -", "-  -", "- -\n", "X X", "X X 0-1z", "X X 0-1b 1-2b", "X X 0-1b:", "X X 0-1b:66", "X X  late 0-4b", "BX", "play g 1", strings.Repeat("B", 25) + " -", strings.Repeat("x", 5000)}
	for _, kind := range kindList {
		hasPlay := kind == "play" || kind == "change"
		for _, text := range followed(wrong, "", "- -") {
			e := shaped(kind, shapes[kind][0], shapes[kind][1])
			e.Text = text
			wanted := api.ErrForm
			if hasPlay && (text == "- -" || text == "X X") || !hasPlay && text == "" {
				wanted = api.OK
			}
			want(t, "a text of "+kind, []any{text, office.CheckEvent(e)}, []any{text, wanted})
		}
	}
}

// Of several errors of an event the first one is told.
func TestCheckEventOrder(t *testing.T) {
	e := api.Event{Number: 0, Kind: "note", Names: []string{""}, Values: []int{-1}, Text: "x"}
	for _, row := range []struct {
		repair func()
		err    api.Errno
	}{
		{func() {}, api.ErrRange},
		{func() { e.Number = 1 }, api.ErrKind},
		{func() { e.Kind = "judge" }, api.ErrShape},
		{func() { e.Names = []string{"g", ""} }, api.ErrShape},
		{func() { e.Values = []int{1, 1, 1, 1, -1} }, api.ErrName},
		{func() { e.Names[1] = "life" }, api.ErrRange},
		{func() { e.Values[4] = 0 }, api.ErrForm},
		{func() { e.Text = "" }, api.OK},
	} {
		row.repair()
		want(t, "the first of several errors", office.CheckEvent(e), row.err)
	}
}

func TestReplayOfEachKind(t *testing.T) {
	g := exampleGame
	hit := api.Judgment{Play: 2, From: 0, Kind: "hit", Base: 2, Rule: 1}
	choice := api.Judgment{Play: 0, From: 0, Kind: "choice", Rule: 4}
	changed := inVersion(1, g(3))
	changed.Plays = plays("X X 0-1b:64", "C - 1-2p", "X X 2-4b:82 0-2t:82")
	for what, row := range map[string]struct {
		events   []api.Event
		register office.Register
	}{
		"nothing":                   {nil, office.Register{}},
		"open":                      {example(1), register(1, g(0))},
		"a play":                    {example(2), register(1, g(1))},
		"two plays":                 {example(3), register(1, g(2))},
		"three plays":               {example(4), register(2, g(3))},
		"a judgment":                {example(5), register(2, g(3, life))},
		"drop":                      {example(6), register(3, inVersion(1, g(2, life)))},
		"drop twice":                {example(4, "drop g 3", "drop g 3"), register(3, inVersion(2, g(1)))},
		"drop all":                  {example(2, "drop g 7"), register(7, inVersion(1, g(0)))},
		"a play after a drop":       {example(6, "play g 4 X X 2-4b:82 0-2t:82"), register(4, inVersion(1, g(3, life)))},
		"change":                    {example(4, "change g 2 0 X X 0-1b:64"), register(2, changed)},
		"change, changed back":      {example(4, "change g 2 0 X X 0-1b:64", "change g 2 0 X X 0-1b:6"), register(2, inVersion(2, g(3)))},
		"change to the same":        {example(4, "change g 9 1 C - 1-2p"), register(9, inVersion(1, g(3)))},
		"a second judgment":         {example(5, "judge g hit 2 2 0 2 0"), register(2, g(3, life, hit))},
		"judgments in their order":  {example(4, "judge g hit 2 2 0 2 0", "judge g life 2 0 0 0 6"), register(2, g(3, life, hit))},
		"one that excludes another": {example(5, "judge g choice 2 0 0 0 0"), register(2, g(3, choice))},
		"the same judgment twice":   {example(5, "judge g life 4 0 0 0 6"), register(4, g(3, life))},
		"reverse":                   {example(5, "reverse g life 3 0 0 0 6"), register(3, g(3))},
		"reverse one of two":        {example(5, "judge g hit 2 2 0 2 0", "reverse g life 3 0 0 0 6"), register(3, g(3, hit))},
		"the day 0":                 {journal("open g v h 0"), register(0, g(0))},
		"games in the order of their events": {
			journal("open z v h 1", "open a h v 1", "open b v h 1"),
			register(1, office.Game{Name: "z", Sides: [2]string{"v", "h"}}, office.Game{Name: "a", Sides: [2]string{"h", "v"}}, office.Game{Name: "b", Sides: [2]string{"v", "h"}}),
		},
		"a game that is changed among others": {
			journal("open a b c 1", "open g v h 1", "open z y x 1", "play g 1 X X 0-1b:6"),
			register(1, office.Game{Name: "a", Sides: [2]string{"b", "c"}}, g(1), office.Game{Name: "z", Sides: [2]string{"y", "x"}}),
		},
		"a game named like a side": {journal("open v v h 1"), register(1, office.Game{Name: "v", Sides: [2]string{"v", "h"}})},
	} {
		wantRegister(t, what, row.events, row.register)
	}
}

func TestReplayOfAWholeGame(t *testing.T) {
	lines := wholeLines()
	g := office.Game{Name: "w", Sides: [2]string{"x", "y"}, Plays: plays(followed([]string{homer}, repeated(strikeout, 54)...)...)}
	wantRegister(t, "a game that is over", journal(lines...), register(5, g))
	g.Closed = true
	wantRegister(t, "a game that is closed", journal(followed(lines, "close w 6")...), register(6, g))
	judged := followed(lines, "judge w hit 5 0 0 4 0", "close w 5")
	g.Judgments = []api.Judgment{{Kind: "hit", Base: 4, Rule: 1}}
	wantRegister(t, "a game that is judged and closed", journal(judged...), register(5, g))
	wantRegister(t, "a game after one that is closed", journal(followed(judged, "open g v h 6")...), register(6, g, exampleGame(0)))
	e := office.Accepts(journal(followed(wholeLines()[:55], "play w 5 BX X 0x1f:63")...), event(57, "close w 5"))
	want(t, "the last out in another way", e, api.OK)
}

func TestReplayErrors(t *testing.T) {
	for what, row := range map[string]struct {
		events []api.Event
		n      int
		err    api.Errno
	}{
		"the first event":              {journal("undo"), 1, api.ErrEmpty},
		"the second event":             {journal("open g v h 1", "open g v h 1", "undo", "undo"), 2, api.ErrTwice},
		"the last event":               {example(6, "drop k 3"), 7, api.ErrUnknown},
		"an event that is none":        {followed(example(1), api.Event{Number: 2, Kind: "note"}), 2, api.ErrKind},
		"a number of none":             {followed(example(1), api.Event{Number: 1001, Kind: "undo"}), 2, api.ErrRange},
		"a number twice":               {followed(example(2), event(2, "undo")), 3, api.ErrOrder},
		"a number that is left out":    {followed(example(2), event(4, "undo")), 3, api.ErrOrder},
		"a first number that is not 1": {[]api.Event{event(2, "open g v h 1")}, 1, api.ErrOrder},
		"another number in the place":  {[]api.Event{event(7, "open g v h 1"), {}}, 1, api.ErrOrder},
		"too many":                     {make([]api.Event, 1001), 0, api.ErrMany},
		"as many as may be":            {make([]api.Event, 1000), 1, api.ErrRange},
	} {
		r, n, e := office.Replay(row.events)
		want(t, "Replay: "+what, []any{r, n, e}, []any{office.Register{}, row.n, row.err})
		r, e = office.AsOf(row.events, -1)
		want(t, "AsOf: "+what, []any{r, e}, []any{office.Register{}, row.err})
		want(t, "Accepts: "+what, office.Accepts(row.events, api.Event{}), row.err)
	}
}

// fullLines are 1000 events, with a game g without plays.
func fullLines() []string {
	lines := []string{"open g v h 1"}
	for len(lines) < 998 {
		lines = append(lines, "play g 1 - -", "undo")
	}
	return append(lines, "open k v h 2")
}

func TestReplayOfManyEvents(t *testing.T) {
	lines := fullLines()
	want(t, "the number of the events", len(lines), 1000)
	k := office.Game{Name: "k", Sides: [2]string{"v", "h"}}
	wantRegister(t, "1000 events", journal(lines...), register(2, exampleGame(0), k))
	all := journal(lines...)
	want(t, "one more", office.Accepts(all, event(1000, "undo")), api.ErrMany)
	want(t, "one more, that would not be accepted", office.Accepts(all, event(7, "drop z 0")), api.ErrMany)
	want(t, "one more, that is none", office.Accepts(all, event(1001, "undo")), api.ErrRange)
	want(t, "one more, of no kind", office.Accepts(all, api.Event{Number: 1000}), api.ErrKind)
	want(t, "the 1000th", office.Accepts(all[:999], event(1000, "undo")), api.OK)
	many := followed(all, event(1000, "undo"))
	want(t, "after too many", office.Accepts(many, api.Event{}), api.ErrMany)
	r, e := office.AsOf(many, 1)
	want(t, "AsOf of too many", []any{r, e}, []any{office.Register{}, api.ErrMany})
}

// games returns the events that open so many games.
func games(n int) []string {
	var lines []string
	for i := range n {
		lines = append(lines, "open g"+strconv.Itoa(i)+" v h 1")
	}
	return lines
}

// after returns lines of events and a further one.
type after struct {
	before []string
	line   string
	err    api.Errno
}

// wantAccepts expects the errors of further events.
func wantAccepts(t *testing.T, rows map[string]after) {
	t.Helper()
	for what, row := range rows {
		l, e := journal(row.before...), event(len(row.before)+1, row.line)
		want(t, what, office.Accepts(l, e), row.err)
		r, n, err := office.Replay(followed(l, e))
		if row.err == api.OK {
			want(t, what, []any{n, err}, []any{0, api.OK})
		} else {
			want(t, what, []any{r, n, err}, []any{office.Register{}, len(l) + 1, row.err})
		}
		e.Number++
		want(t, what+", with another number", office.Accepts(l, e), api.ErrOrder)
	}
}

func TestAcceptsOpen(t *testing.T) {
	wantAccepts(t, map[string]after{
		"a second game":                     {exampleLines[:1], "open k v h 1", api.OK},
		"a game by another letter":          {exampleLines[:1], "open G v h 1", api.OK},
		"a game with the sides exchanged":   {exampleLines[:1], "open k h v 1", api.OK},
		"a game twice":                      {exampleLines[:1], "open g a b 1", api.ErrTwice},
		"a game twice, of one side":         {exampleLines[:1], "open g a a 1", api.ErrTwice},
		"a game twice, too early":           {exampleLines[:1], "open g a b 0", api.ErrState},
		"a game twice, the second of three": {games(3), "open g1 a b 1", api.ErrTwice},
		"a game of one side":                {exampleLines[:1], "open k a a 1", api.ErrConflict},
		"a game of one side, too early":     {exampleLines[:1], "open k a a 0", api.ErrState},
		"a game of one side by letters":     {exampleLines[:1], "open k a A 1", api.OK},
		"the 64th game":                     {games(63), "open g a b 1", api.OK},
		"the 65th game":                     {games(64), "open g a b 1", api.ErrMany},
		"the 65th game, of one side":        {games(64), "open g a a 1", api.ErrMany},
		"the 65th game, twice":              {games(64), "open g63 a b 1", api.ErrTwice},
		"the 65th game, one undone":         {followed(games(64), "undo"), "open g63 a b 1", api.OK},
		"a game that is closed":             {followed(wholeLines(), "close w 5"), "open w a b 5", api.ErrTwice},
	})
}

// decidedLines are the events of a game that would be over before its last play if its play 3 were a run.
func decidedLines() []string {
	return slices.Concat([]string{"open w x y 5"}, repeated("play w 5 "+strikeout, 3), []string{"play w 5 BBBB W 0-1a"}, repeated("play w 5 "+strikeout, 49))
}

func TestAcceptsPlays(t *testing.T) {
	full := followed(exampleLines[:1], repeated("play g 1 - -", 256)...)
	wantAccepts(t, map[string]after{
		"a play":                          {exampleLines[:2], "play g 1 C -", api.OK},
		"a play that breaks a rule":       {exampleLines[:2], "play g 1 C - 2-3p", api.ErrRule},
		"a play of no game":               {exampleLines[:2], "play k 1 C - 2-3p", api.ErrUnknown},
		"a play of no game, too early":    {exampleLines[:2], "play k 0 C - 2-3p", api.ErrState},
		"a play too early":                {exampleLines[:4], "play g 1 C -", api.ErrState},
		"a play much later":               {exampleLines[:4], "play g 999999999 C -", api.OK},
		"the 256th play":                  {full[:256], "play g 1 - -", api.OK},
		"the 257th play":                  {full, "play g 1 - -", api.ErrMany},
		"the 257th play, against a rule":  {full, "play g 1 X -", api.ErrMany},
		"a play of another game":          {followed(full, "open k v h 1"), "play k 1 - -", api.OK},
		"a play of a game that is over":   {wholeLines(), "play w 5 - -", api.ErrOver},
		"a play of a game that is closed": {followed(wholeLines(), "close w 5"), "play w 5 - -", api.ErrOver},

		"change":                            {exampleLines[:4], "change g 2 0 X X 0-1b", api.OK},
		"change of the last play":           {exampleLines[:4], "change g 2 2 S - 2-3s", api.OK},
		"change too early":                  {exampleLines[:4], "change g 1 0 X X 0-1b", api.ErrState},
		"change of no game":                 {exampleLines[:4], "change k 2 9 X X", api.ErrUnknown},
		"change against a later play":       {exampleLines[:4], "change g 2 0 X X 0x1f:63", api.ErrRule},
		"change against a rule":             {exampleLines[:4], "change g 2 1 C - 3-4p", api.ErrRule},
		"change of no play":                 {exampleLines[:4], "change g 2 3 X -", api.ErrNone},
		"change of no play at all":          {exampleLines[:1], "change g 2 0 - -", api.ErrNone},
		"change behind the end":             {exampleLines[:4], "change g 2 999999999 - -", api.ErrNone},
		"change of a judged play":           {exampleLines[:5], "change g 3 0 X X 0-1b", api.ErrConflict},
		"change of a judged play, fitting":  {exampleLines[:5], "change g 3 0 X X 0-1b:36", api.OK},
		"change of a judged play, to rules": {exampleLines[:5], "change g 3 0 X X 0x1f:63", api.ErrRule},
		"change beside a judged play":       {exampleLines[:5], "change g 3 1 B - 1-2p", api.OK},
		"change to the end of the game":     {wholeLines(), "change w 5 0 X X 0x1f:63", api.OK},
		"change so that plays are behind":   {decidedLines(), "change w 5 3 " + homer, api.ErrOver},
		"change of a closed game":           {followed(wholeLines(), "close w 5"), "change w 5 99 X -", api.ErrOver},

		"drop":                            {exampleLines[:2], "drop g 1", api.OK},
		"drop too early":                  {exampleLines[:4], "drop g 1", api.ErrState},
		"drop of no game":                 {exampleLines[:4], "drop k 2", api.ErrUnknown},
		"drop of no play":                 {exampleLines[:1], "drop g 1", api.ErrEmpty},
		"drop of more plays than are":     {followed(exampleLines[:2], "drop g 1"), "drop g 1", api.ErrEmpty},
		"drop of a judged play":           {followed(exampleLines[:4], "judge g hit 2 2 0 1 0"), "drop g 2", api.ErrConflict},
		"drop behind a judged play":       {exampleLines[:5], "drop g 2", api.OK},
		"drop of one judged play of two":  {followed(exampleLines[:5], "judge g hit 2 2 0 1 0"), "drop g 2", api.ErrConflict},
		"drop of the only, judged play":   {followed(exampleLines[:2], "judge g hit 2 0 0 1 0"), "drop g 2", api.ErrConflict},
		"drop of a play no longer judged": {followed(exampleLines[:4], "judge g hit 2 2 0 1 0", "reverse g hit 2 2 0 1 0"), "drop g 2", api.OK},
		"drop of the last play of a game": {wholeLines(), "drop w 5", api.OK},
		"drop of a closed game":           {followed(wholeLines(), "close w 5"), "drop w 5", api.ErrOver},
	})
}

func TestAcceptsJudgments(t *testing.T) {
	before := exampleLines[:4]
	wantAccepts(t, map[string]after{
		"a hit":                          {before, "judge g hit 2 0 0 1 0", api.OK},
		"a hit of too many bases":        {before, "judge g hit 2 0 0 2 0", api.ErrJudge},
		"a life by nobody":               {before, "judge g life 2 0 0 0 5", api.ErrJudge},
		"a life with a base":             {before, "judge g life 2 0 0 6 0", api.ErrJudge},
		"an error":                       {before, "judge g error 2 2 0 1 8", api.OK},
		"an error by nobody":             {before, "judge g error 2 2 0 8 1", api.ErrJudge},
		"a wild pitch of the runner":     {before, "judge g wild 2 1 1 0 0", api.OK},
		"a wild pitch of the batter":     {before, "judge g wild 2 1 0 0 0", api.ErrNone},
		"a runner of none":               {before, "judge g wild 2 1 9 0 0", api.ErrNone},
		"a kind of none":                 {before, "judge g lives 2 0 0 0 6", api.ErrKind},
		"a kind of none, of no play":     {before, "judge g lives 2 3 0 0 6", api.ErrUnknown},
		"a play of none":                 {before, "judge g life 2 3 0 0 6", api.ErrUnknown},
		"a judgment of no game":          {before, "judge k lives 2 3 0 0 6", api.ErrUnknown},
		"a judgment too early":           {before, "judge k lives 1 3 0 0 6", api.ErrState},
		"a judgment of a game w":         {wholeLines(), "judge w hit 5 0 0 4 0", api.OK},
		"a judgment of a closed game":    {followed(wholeLines(), "close w 5"), "judge w lives 5 99 0 4 0", api.ErrOver},
		"one that excludes another":      {exampleLines[:5], "judge g hit 2 0 0 1 0", api.OK},
		"reverse":                        {exampleLines[:5], "reverse g life 2 0 0 0 6", api.OK},
		"reverse of none":                {before, "reverse g life 2 0 0 0 6", api.ErrNone},
		"reverse twice":                  {followed(exampleLines[:5], "reverse g life 2 0 0 0 6"), "reverse g life 2 0 0 0 6", api.ErrNone},
		"reverse of another one":         {exampleLines[:5], "reverse g hit 2 0 0 1 0", api.ErrNone},
		"reverse of one that is missing": {before, "reverse g hit 2 2 0 2 0", api.ErrNone},
		"reverse of one that is wrong":   {exampleLines[:5], "reverse g life 2 0 0 0 5", api.ErrJudge},
		"reverse of a kind of none":      {exampleLines[:5], "reverse g lives 2 0 0 0 6", api.ErrKind},
		"reverse of no play":             {exampleLines[:5], "reverse g life 2 3 0 0 6", api.ErrUnknown},
		"reverse of no game":             {exampleLines[:5], "reverse k life 2 0 0 0 6", api.ErrUnknown},
		"reverse too early":              {exampleLines[:5], "reverse g life 1 0 0 0 6", api.ErrState},
		"reverse of a closed game":       {followed(wholeLines(), "close w 5"), "reverse w lives 5 99 0 4 0", api.ErrOver},
	})
}

func TestAcceptsClose(t *testing.T) {
	wantAccepts(t, map[string]after{
		"close":                          {wholeLines(), "close w 5", api.OK},
		"close later":                    {wholeLines(), "close w 999999999", api.OK},
		"close too early":                {wholeLines(), "close w 4", api.ErrState},
		"close of no game":               {wholeLines(), "close g 5", api.ErrUnknown},
		"close twice":                    {followed(wholeLines(), "close w 5"), "close w 5", api.ErrOver},
		"close of a game that is on":     {exampleLines[:4], "close g 2", api.ErrState},
		"close of a game without a play": {exampleLines[:1], "close g 2", api.ErrState},
		"close before the last out":      {wholeLines()[:55], "close w 5", api.ErrState},
		"close after a drop":             {followed(wholeLines(), "drop w 5"), "close w 5", api.ErrState},
		"close of another game":          {followed(wholeLines(), "close w 5", "open k v h 5"), "close k 5", api.ErrState},
		"a play after another's close":   {followed(wholeLines(), "open g v h 5", "close w 5"), "play g 5 - -", api.OK},
	})
}

func TestUndo(t *testing.T) {
	for what, row := range map[string]struct {
		lines    []string
		register office.Register
	}{
		"a drop":                       {followed(exampleLines, "undo"), register(2, exampleGame(3, life))},
		"a drop and a judgment":        {followed(exampleLines, "undo", "undo"), register(2, exampleGame(3))},
		"three events":                 {followed(exampleLines, "undo", "undo", "undo"), register(1, exampleGame(2))},
		"all events":                   {followed(exampleLines, repeated("undo", 6)...), office.Register{}},
		"all events, and others":       {followed(exampleLines, followed(repeated("undo", 6), "open g v h 0")...), register(0, exampleGame(0))},
		"an event, and an earlier one": {followed(exampleLines[:4], "undo", "play g 1 X X 2-4b:82 0-2t:82"), register(1, exampleGame(3))},
		"an event again":               {followed(exampleLines[:4], "undo", "play g 2 X X 2-4b:82 0-2t:82"), register(2, exampleGame(3))},
		"by turns":                     {followed(exampleLines[:3], "drop g 1", "undo", "drop g 2", "undo", "drop g 3"), register(3, inVersion(1, exampleGame(1)))},
		"a change":                     {followed(exampleLines[:4], "change g 3 0 X X 0-1b", "undo"), register(2, exampleGame(3))},
		"a reversal":                   {followed(exampleLines[:5], "reverse g life 3 0 0 0 6", "undo"), register(2, exampleGame(3, life))},
		"a game":                       {followed(exampleLines[:2], "open k v h 1", "undo"), register(1, exampleGame(1))},
	} {
		wantRegister(t, "undo of "+what, journal(row.lines...), row.register)
	}
	closed := followed(wholeLines(), "close w 5")
	wantAccepts(t, map[string]after{
		"undo of an event":                   {exampleLines[:1], "undo", api.OK},
		"undo of more than there is":         {[]string{"open g v h 1", "undo"}, "undo", api.ErrEmpty},
		"undo of a close":                    {closed, "undo", api.ErrRule},
		"undo behind a close":                {followed(closed, "open k v h 5"), "undo", api.OK},
		"undo of a close, behind an undo":    {followed(closed, "open k v h 5", "undo"), "undo", api.ErrRule},
		"undo of another one than a close":   {followed(closed, "open k v h 5", "undo", "open k v h 5"), "undo", api.OK},
		"a day before one that is undone":    {followed(exampleLines, "undo", "undo", "undo"), "drop g 1", api.OK},
		"a day before one that still counts": {followed(exampleLines, "undo"), "drop g 1", api.ErrState},
	})
	want(t, "undo of nothing", office.Accepts(nil, event(1, "undo")), api.ErrEmpty)
	want(t, "undo of nothing, with another number", office.Accepts(nil, event(2, "undo")), api.ErrOrder)
}

func TestAsOf(t *testing.T) {
	k := office.Game{Name: "k", Sides: [2]string{"v", "h"}}
	for what, row := range map[string]struct {
		lines    []string
		day      int
		register office.Register
	}{
		"before the first day":      {exampleLines, 0, office.Register{}},
		"the first day":             {exampleLines, 1, register(1, exampleGame(2))},
		"the second day":            {exampleLines, 2, register(2, exampleGame(3, life))},
		"the last day":              {exampleLines, 3, register(3, inVersion(1, exampleGame(2, life)))},
		"a day behind the last one": {exampleLines, 4, register(3, inVersion(1, exampleGame(2, life)))},
		"the last day of all":       {exampleLines, 999999999, register(3, inVersion(1, exampleGame(2, life)))},
		"a day without events":      {[]string{"open g v h 2", "play g 5 X X 0-1b:6"}, 4, register(2, exampleGame(0))},
		"a day that is undone":      {followed(exampleLines, "undo"), 3, register(2, exampleGame(3, life))},
		"a day before one undone":   {followed(exampleLines, "undo"), 1, register(1, exampleGame(2))},
		"an event that is undone":   {followed(exampleLines[:4], "undo", "open k v h 3"), 2, register(1, exampleGame(2))},
		"an event undone later":     {followed(exampleLines[:3], "open k v h 2", "undo", "open k v h 4"), 3, register(1, exampleGame(2))},
		"an event behind an undo":   {followed(exampleLines[:2], "play g 7 - -", "undo", "open k v h 3"), 3, register(3, exampleGame(1), k)},
		"nothing":                   {nil, 5, office.Register{}},
		"nothing any more":          {[]string{"open g v h 1", "undo"}, 5, office.Register{}},
		"the day 0":                 {[]string{"open g v h 0", "open k v h 1"}, 0, register(0, exampleGame(0))},
	} {
		r, e := office.AsOf(journal(row.lines...), row.day)
		want(t, "AsOf "+what, []any{r, e}, []any{row.register, api.OK})
	}
	for _, day := range []int{-1, 1000000000, math.MinInt, math.MaxInt} {
		for _, l := range [][]api.Event{nil, example(6)} {
			r, e := office.AsOf(l, day)
			want(t, "AsOf of no day", []any{r, e}, []any{office.Register{}, api.ErrRange})
		}
	}
}
