package office_test

import (
	"strconv"
	"strings"
	"testing"

	"dugout/api"
	"dugout/office"
)

// entry is a line of the console, with its result.
type entry struct {
	line   string
	result string
	err    api.Errno
}

// wantResults expects the results of lines in a session, and that an error changes nothing.
func wantResults(t *testing.T, s *office.Session, rows ...entry) {
	t.Helper()
	for _, row := range rows {
		log := s.Log()
		result, e := s.Do(row.line)
		want(t, "Do "+row.line, []any{result, e}, []any{row.result, row.err})
		if e != api.OK || !strings.HasPrefix(result, "done ") {
			want(t, "the log after "+row.line, s.Log(), log)
		}
	}
}

// session returns a session in which some lines have been executed.
func session(lines ...string) *office.Session {
	s := office.New()
	for i, line := range lines {
		if result, e := s.Do(line); e != api.OK || result != "done "+strconv.Itoa(i+1) {
			panic("a line that is not done: " + line)
		}
	}
	return s
}

func TestEventsOfTheConsole(t *testing.T) {
	s := office.New()
	for i, line := range exampleLines {
		wantResults(t, s, entry{line, "done " + strconv.Itoa(i+1), api.OK})
		want(t, "Events", s.Events(), example(i+1))
		want(t, "Log", s.Log(), logOf(exampleLines[:i+1]...))
	}
	wantResults(t, s,
		entry{"reverse g life 3 0 0 0 6", "done 7", api.OK},
		entry{"change g 3 0 X X 0-2b:6", "", api.ErrRule},
		entry{"change g 3 1 B - 1-2p", "done 8", api.OK},
		entry{"undo", "done 9", api.OK},
		entry{"undo", "done 10", api.OK},
		entry{"judge g life 3 0 0 0 6", "done 11", api.OK},
		entry{"close g 3", "", api.ErrState},
	)
	want(t, "the number of the events", len(s.Events()), 11)
	w := session(followed(wholeLines(), "close w 6", "open k v h 7", "undo")...)
	wantResults(t, w, entry{"undo", "", api.ErrRule}, entry{"close w 7", "", api.ErrOver}, entry{"open g v h 6", "done 60", api.OK})
}

func TestQuestions(t *testing.T) {
	s := office.New()
	wantResults(t, s, entry{"games", "none", api.OK}, entry{"state g", "", api.ErrUnknown})
	s = session(exampleLines[:1]...)
	wantResults(t, s,
		entry{"games", "g", api.OK},
		entry{"state g", "1t 0 0-0 000 11 0:0 on", api.OK},
		entry{"score g", "0 0", api.OK},
		entry{"last g", "none", api.OK},
		entry{"errors g", "0 0", api.OK},
		entry{"version g", "0", api.OK},
		entry{"missing g", "0", api.OK},
	)
	s = session(exampleLines[:4]...)
	wantResults(t, s,
		entry{"state g", "1t 0 0-0 020 31 1:0 on", api.OK},
		entry{"score g", "1 0", api.OK},
		entry{"last g", "X X 2-4b:82 0-2t:82", api.OK},
		entry{"errors g", "0 0", api.OK},
		entry{"version g", "0", api.OK},
		entry{"missing g", "3", api.OK},
	)
	s = session(exampleLines...)
	wantResults(t, s,
		entry{"state g", "1t 0 0-1 010 21 0:0 on", api.OK},
		entry{"score g", "0 0", api.OK},
		entry{"last g", "C - 1-2p", api.OK},
		entry{"errors g", "0 1", api.OK},
		entry{"version g", "1", api.OK},
		entry{"missing g", "1", api.OK},
		entry{"undo", "done 7", api.OK},
		entry{"version g", "0", api.OK},
		entry{"missing g", "2", api.OK},
	)
}

func TestQuestionsAboutSeveralGames(t *testing.T) {
	s := session(wholeLines()...)
	wantResults(t, s,
		entry{"state w", "9b 0 0-0 000 21 1:0 over", api.OK},
		entry{"score w", "1 0", api.OK},
		entry{"games", "w", api.OK},
		entry{"open g v h 5", "done 57", api.OK},
		entry{"games", "w g", api.OK},
		entry{"open a v h 5", "done 58", api.OK},
		entry{"games", "w g a", api.OK},
		entry{"close w 5", "done 59", api.OK},
		entry{"games", "g a", api.OK},
		entry{"score w", "1 0", api.OK},
		entry{"missing w", "1", api.OK},
		entry{"last w", strikeout, api.OK},
		entry{"score a", "0 0", api.OK},
	)
	both := session("open g v h 1", "play g 1 X X 0-2b:6", "play g 1 C - 2-3p:2", "judge g error 1 0 0 1 6", "judge g error 1 1 2 2 2",
		"play g 1 "+fly, "play g 1 "+fly, "play g 1 "+fly, "play g 1 X X 0-1b:4", "judge g life 1 5 0 0 4", "change g 1 2 X X 0x1c:7")
	wantResults(t, both,
		entry{"errors g", "1 2", api.OK},
		entry{"missing g", "2", api.OK},
		entry{"version g", "1", api.OK},
		entry{"state g", "1b 0 0-0 100 52 0:0 on", api.OK},
	)
	over := session(followed(wholeLines(), "close w 5")...)
	wantResults(t, over, entry{"games", "none", api.OK})
	home := session(followed([]string{"open w x y 5"}, followed(repeated("play w 5 "+strikeout, 51), "play w 5 "+homer)...)...)
	wantResults(t, home, entry{"score w", "0 1", api.OK}, entry{"state w", "9b 0 0-0 000 18 0:1 over", api.OK})
}

func TestWrongLines(t *testing.T) {
	s := session(exampleLines...)
	long := strings.Repeat("x", 4097)
	wantResults(t, s,
		entry{long, "", api.ErrLong},
		entry{"play g 3 " + long, "", api.ErrLong},
		entry{"games" + strings.Repeat(" ", 4092), "", api.ErrLong},
		entry{long[1:], "", api.ErrKind},
		entry{"play g 3 " + long[10:], "", api.ErrForm},
		entry{"", "", api.ErrSyntax},
		entry{" ", "", api.ErrKind},
		entry{" games", "", api.ErrKind},
		entry{"show", "", api.ErrKind},
		entry{"Games", "", api.ErrKind},
		entry{"games\n", "", api.ErrKind},
		entry{"game", "", api.ErrKind},
		entry{"1 games", "", api.ErrKind},
		entry{"7 undo", "", api.ErrKind},
		entry{"undo\t", "", api.ErrKind},
		entry{"\xff", "", api.ErrKind},
		entry{"life g", "", api.ErrKind},
	)
	for _, word := range []string{"state", "score", "last", "errors", "version", "missing"} {
		wantResults(t, s,
			entry{word, "", api.ErrSyntax},
			entry{word + " ", "", api.ErrSyntax},
			entry{word + "  g", "", api.ErrSyntax},
			entry{word + " g ", "", api.ErrSyntax},
			entry{word + " g g", "", api.ErrSyntax},
			entry{word + " k", "", api.ErrUnknown},
			entry{word + " G", "", api.ErrUnknown},
			entry{word + " 1", "", api.ErrUnknown},
			entry{word + " g\n", "", api.ErrUnknown},
			entry{word + " \xff", "", api.ErrUnknown},
			entry{word + "g", "", api.ErrKind},
		)
	}
	wantResults(t, s, entry{"games ", "", api.ErrSyntax}, entry{"games g", "", api.ErrSyntax}, entry{"games  ", "", api.ErrSyntax})
	want(t, "Events", s.Events(), example(6))
}

// The form of a line of an event is told before all other errors.
func TestFormOfLines(t *testing.T) {
	s := session(exampleLines...)
	for _, line := range []string{
		"open", "open k v h", "open k v 4", "open k v h 4 ", "open k v h 4 x", "open  k v h 4", "open k  v h 4", "open k v h  4", "open k v h 04", "open k v h -4", "open k v h +4", "open k v h 4.", "open k v h x", "open k v h 1000000000", "open k v h ４", "open k v h 4\n",
		"play", "play ", "play g", "play g ", "play g 4 ", "play g x - -", "play g - -", "play  g 4 - -", "play g  4 - -", "play g 04 - -", "play g 1000000000 - -", "play g -1 - -",
		"change g 4", "change g 4 ", "change g 4 0 ", "change g 4 - -", "change g 4 00 - -", "change g  4 0 - -",
		"drop g", "drop g 4 ", "drop g 4 - -", "drop g g 4", "drop 4", "close g", "close g 4 4", "close g 4 ",
		"judge g life 4 0 0 0", "judge g life 4 0 0 0 6 6", "judge g life 4 0 0 0 6 ", "judge g life 4 0 0 0 -6", "judge g 4 0 0 0 6", "judge g life 4 0 0 0 x", "reverse g life 4 0 0 0", "reverse g  4 0 0 0 6",
		"undo ", "undo 1", "undo x", "undo  ",
	} {
		wantResults(t, s, entry{line, "", api.ErrSyntax})
	}
	wantResults(t, s,
		entry{"open 1 v h 0", "", api.ErrName},
		entry{"open k v_ h- 4", "", api.ErrName},
		entry{"open k v h\n 4", "", api.ErrName},
		entry{"open \xff v h 4", "", api.ErrName},
		entry{"drop 9 4", "", api.ErrName},
		entry{"judge g 4 0 0 0 0 6", "", api.ErrName},
		entry{"play g 4", "", api.ErrForm},
		entry{"play 1 4", "", api.ErrName},
		entry{"play g 0", "", api.ErrForm},
		entry{"play g 4  - -", "", api.ErrForm},
		entry{"play g 4 - - ", "", api.ErrForm},
		entry{"play g 4 -  -", "", api.ErrForm},
		entry{"play g 4 - -\n", "", api.ErrForm},
		entry{"change g 4 0", "", api.ErrForm},
		entry{"change g 4 0 0 - -", "", api.ErrForm},
		entry{"change k 4 9 X X", "", api.ErrUnknown},
		entry{"change g 4 9 X X", "", api.ErrNone},
		entry{"open g v v 4", "", api.ErrTwice},
		entry{"open k v v 4", "", api.ErrConflict},
		entry{"open k v v 2", "", api.ErrState},
		entry{"drop k 3", "", api.ErrUnknown},
		entry{"play g 3 C - 1-2p", "", api.ErrRule},
		entry{"judge g lives 3 0 0 0 6", "", api.ErrKind},
		entry{"reverse g hit 3 0 0 1 0", "", api.ErrNone},
	)
	want(t, "Events", s.Events(), example(6))
	wantResults(t, s, entry{"drop g 999999999", "done 7", api.OK}, entry{"play g 999999999 - -", "done 8", api.OK})
}

func TestManyEventsOfTheConsole(t *testing.T) {
	lines := fullLines()
	s := session(lines[:999]...)
	wantResults(t, s, entry{"drop k 2", "", api.ErrUnknown}, entry{lines[999], "done 1000", api.OK})
	wantResults(t, s,
		entry{"undo", "", api.ErrMany},
		entry{"play g 2 - -", "", api.ErrMany},
		entry{"play 1 2", "", api.ErrMany},
		entry{"drop z 0", "", api.ErrMany},
		entry{"drop z 00", "", api.ErrSyntax},
		entry{"undo ", "", api.ErrSyntax},
		entry{"games", "g k", api.OK},
		entry{"games g", "", api.ErrSyntax},
	)
	want(t, "Log", s.Log(), logOf(lines...))
	again, e := office.Open(s.Log())
	want(t, "Open", []any{again.Log() == s.Log(), e}, []any{true, api.OK})
	wantResults(t, again, entry{"undo", "", api.ErrMany})
}

// A complete list of more than 1024 judgments is an error of two questions.
func TestQuestionsOfTooManyJudgments(t *testing.T) {
	lines := []string{"open g v h 0"}
	for _, p := range followed([]string{fly, fly, walk, walks1, walks2}, repeated("CCS K 3-4p:2 2-3p:2 1-2p:2 0-1p:2", 251)...) {
		lines = append(lines, "play g 0 "+p)
	}
	for at := range 20 {
		lines = append(lines, "judge g error 0 "+strconv.Itoa(at+5)+" 3 3 2")
	}
	s := session(lines...)
	wantResults(t, s,
		entry{"missing g", "1004", api.OK},
		entry{"errors g", "0 20", api.OK},
		entry{"judge g error 0 25 3 3 2", "done 278", api.OK},
		entry{"missing g", "", api.ErrMany},
		entry{"errors g", "", api.ErrMany},
		entry{"score g", "251 0", api.OK},
		entry{"undo", "done 279", api.OK},
		entry{"missing g", "1004", api.OK},
	)
}

func TestOpen(t *testing.T) {
	s, e := office.Open("")
	want(t, "Open of nothing", []any{s != nil, e}, []any{true, api.OK})
	wantResults(t, s, entry{"open g v h 1", "done 1", api.OK})
	log := logOf(exampleLines...)
	for _, rest := range []string{"", "7", "7 undo", "7 undo#0000001", strings.TrimSuffix(signed("7 undo"), "\n"), "x\x00 y"} {
		s, e := office.Open(log + rest)
		want(t, "Open", e, api.OK)
		want(t, "the events of a log", s.Events(), example(6))
		want(t, "the log again", s.Log(), log)
		wantResults(t, s, entry{"version g", "1", api.OK}, entry{"undo", "done 7", api.OK}, entry{"version g", "0", api.OK})
		want(t, "the log with one more", s.Log(), log+signed("7 undo"))
	}
	for what, row := range map[string]struct {
		log string
		err api.Errno
	}{
		"an empty line":                           {log + "\n", api.ErrSyntax},
		"a wrong sum":                             {log + "7 undo#0000001\n", api.ErrCheck},
		"a wrong sum, and a record of none":       {"1#0000333\n" + log, api.ErrCheck},
		"a number twice":                          {log + signed("6 undo"), api.ErrOrder},
		"an event that is not accepted":           {log + signed("7 drop k 3"), api.ErrUnknown},
		"the same, and a rest":                    {log + signed("7 drop k 3") + "8 un", api.ErrUnknown},
		"the same, and a wrong line":              {log + signed("7 drop k 3") + "8 un\n", api.ErrSyntax},
		"an undo of nothing":                      {logOf("undo"), api.ErrEmpty},
		"an event that would break the day":       {log + signed("7 drop g 2"), api.ErrState},
		"an event that is not accepted in a rest": {logOf("undo") + "2", api.ErrEmpty},
	} {
		s, e := office.Open(row.log)
		want(t, "Open: "+what, []any{s == nil, e}, []any{true, row.err})
	}
}

func TestSessionsWithoutNew(t *testing.T) {
	var none *office.Session
	for _, line := range []string{"undo", "", "games", "show", strings.Repeat("x", 5000)} {
		result, e := none.Do(line)
		want(t, "Do of nil", []any{result, e}, []any{"", api.ErrState})
	}
	want(t, "a nil session", []any{none.Events(), none.Log()}, []any{[]api.Event(nil), ""})
	var zero office.Session
	wantResults(t, &zero, entry{"games", "none", api.OK}, entry{"undo", "", api.ErrEmpty}, entry{"open g v h 1", "done 1", api.OK}, entry{"games", "g", api.OK})
	want(t, "a new session", []any{office.New().Events(), office.New().Log()}, []any{[]api.Event(nil), ""})
}

// Sessions have nothing in common.
func TestSeveralSessions(t *testing.T) {
	a, b := session(exampleLines...), session(exampleLines[:3]...)
	wantResults(t, a, entry{"undo", "done 7", api.OK}, entry{"score g", "1 0", api.OK})
	wantResults(t, b, entry{"score g", "0 0", api.OK}, entry{"undo", "done 4", api.OK}, entry{"last g", "X X 0-1b:6", api.OK})
	wantResults(t, a, entry{"last g", "X X 2-4b:82 0-2t:82", api.OK})
	want(t, "the events", []any{len(a.Events()), len(b.Events())}, []any{7, 4})
}
