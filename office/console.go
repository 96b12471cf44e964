package office

import (
	"slices"
	"strconv"
	"strings"

	"dugout/api"
	"dugout/judge"
	"dugout/play"
	"dugout/rule"
)

// Session is a console.
type Session struct {
	history
}

// question is a question of the console: how many words follow its own one, and its answer.
type question struct {
	words  int
	answer func(Register, []string) ([]string, api.Errno)
}

// questions returns the questions by their words.
func questions() map[string]question {
	return map[string]question{
		"state":   {1, aboutGame(stateOf)},
		"score":   {1, aboutGame(scoreOf)},
		"last":    {1, aboutGame(lastOf)},
		"errors":  {1, aboutGame(errorsOf)},
		"version": {1, aboutGame(versionOf)},
		"missing": {1, aboutGame(missingOf)},
		"games":   {0, openGames},
	}
}

// New returns a session without events.
func New() *Session {
	return &Session{}
}

// Open returns the session with a log, which may end too early.
func Open(log string) (*Session, api.Errno) {
	l, _, err := Recover(log)
	if err != api.OK && err != api.ErrTorn {
		return nil, err
	}
	h, _, err := replay(l)
	if err != api.OK {
		return nil, err
	}
	return &Session{h}, api.OK
}

// Do executes a line, and returns its result.
func (s *Session) Do(line string) (string, api.Errno) {
	switch {
	case s == nil:
		return "", api.ErrState
	case len(line) > api.MaxText:
		return "", api.ErrLong
	case line == "":
		return "", api.ErrSyntax
	}
	name, _, _ := strings.Cut(line, " ")
	if _, isKind := kinds()[name]; isKind {
		return s.enter(line)
	}
	if q, isQuestion := questions()[name]; isQuestion {
		return s.ask(q, line)
	}
	return "", api.ErrKind
}

// Events returns the events.
func (s *Session) Events() []api.Event {
	if s == nil {
		return nil
	}
	return transform(s.events, func(e api.Event) api.Event {
		e.Names, e.Values = slices.Clone(e.Names), slices.Clone(e.Values)
		return e
	})
}

// Log returns the log of the events.
func (s *Session) Log() string {
	if s == nil {
		return ""
	}
	return strings.Join(transform(s.events, record), "")
}

// enter adds the event of a line.
func (s *Session) enter(line string) (string, api.Errno) {
	e, isRight := readLine(line)
	if !isRight {
		return "", api.ErrSyntax
	}
	e.Number = s.next()
	if err := s.checkRoom(); err != api.OK {
		return "", err
	}
	if err := s.add(e); err != api.OK {
		return "", err
	}
	return "done " + strconv.Itoa(e.Number), api.OK
}

// ask returns the answer to a question.
func (s *Session) ask(q question, line string) (string, api.Errno) {
	words := strings.Split(line, " ")[1:]
	if len(words) != q.words || slices.Contains(words, "") {
		return "", api.ErrSyntax
	}
	l, err := q.answer(s.register(), words)
	if err != api.OK {
		return "", err
	}
	if len(l) == 0 {
		return "none", api.OK
	}
	return strings.Join(l, " "), api.OK
}

// aboutGame returns the answer to a question about the game with a name.
func aboutGame(answer func(Game) ([]string, api.Errno)) func(Register, []string) ([]string, api.Errno) {
	return func(r Register, words []string) ([]string, api.Errno) {
		at := r.find(words[0])
		if at < 0 {
			return nil, api.ErrUnknown
		}
		return answer(r.Games[at])
	}
}

func openGames(r Register, _ []string) ([]string, api.Errno) {
	var names []string
	for _, g := range r.Games {
		if !g.Closed {
			names = append(names, g.Name)
		}
	}
	return names, api.OK
}

func stateOf(g Game) ([]string, api.Errno) {
	final, _, _, _ := rule.Final(g.Plays)
	text, err := rule.Print(final)
	return []string{text}, err
}

func scoreOf(g Game) ([]string, api.Errno) {
	final, _, _, err := rule.Final(g.Plays)
	return numbers(final.Score[:]...), err
}

func lastOf(g Game) ([]string, api.Errno) {
	n := len(g.Plays)
	if n == 0 {
		return nil, api.OK
	}
	text, err := play.Print(g.Plays[n-1])
	return []string{text}, err
}

func errorsOf(g Game) ([]string, api.Errno) {
	var sums [2]int
	for side := range sums {
		errors, err := judge.Errors(g.Plays, g.Judgments, side)
		if err != api.OK {
			return nil, err
		}
		sums[side] = errors[0]
	}
	return numbers(sums[:]...), api.OK
}

func versionOf(g Game) ([]string, api.Errno) {
	return numbers(g.Version), api.OK
}

func missingOf(g Game) ([]string, api.Errno) {
	l, err := judge.Missing(g.Plays, g.Judgments)
	return numbers(len(l)), err
}

func numbers(l ...int) []string {
	return transform(l, strconv.Itoa)
}
