package play

import (
	"iter"
	"strings"

	"dugout/api"
)

const (
	nothing  = "-"
	lateWord = "late"
)

// Print returns the string of a play.
func Print(p api.Play) (string, api.Errno) {
	if e := CheckPlay(p); e != api.OK {
		return "", e
	}
	return printPlay(p), api.OK
}

// Parse returns the play with a string, or the index of the first word that is wrong.
func Parse(s string) (api.Play, int, api.Errno) {
	if len(s) > api.MaxText {
		return api.Play{}, 0, api.ErrLong
	}
	if at, wrong := findWrong(s); wrong {
		return api.Play{}, at, api.ErrSyntax
	}
	p := readPlay(s)
	if e := CheckPlay(p); e != api.OK {
		return api.Play{}, len(s), e
	}
	return p, 0, api.OK
}

// PrintAll returns the text of plays.
func PrintAll(l []api.Play) (string, api.Errno) {
	if len(l) > api.MaxPlays {
		return "", api.ErrMany
	}
	var text strings.Builder
	for _, p := range l {
		s, e := Print(p)
		if e != api.OK {
			return "", e
		}
		text.WriteString(s)
		text.WriteByte('\n')
	}
	if text.Len() > api.MaxLog {
		return "", api.ErrLong
	}
	return text.String(), api.OK
}

// ParseAll returns the plays of a text, or the index of the first line that is wrong.
func ParseAll(s string) ([]api.Play, int, api.Errno) {
	if len(s) > api.MaxLog {
		return nil, 0, api.ErrLong
	}
	var plays []api.Play
	for line := range strings.Lines(s) {
		p, e := parseLine(line, len(plays))
		if e != api.OK {
			return nil, len(plays), e
		}
		plays = append(plays, p)
	}
	return plays, 0, api.OK
}

// parseLine returns the play of a line that has some lines before it.
func parseLine(line string, before int) (api.Play, api.Errno) {
	s, ended := strings.CutSuffix(line, "\n")
	if !ended {
		return api.Play{}, api.ErrSyntax
	}
	if before >= api.MaxPlays {
		return api.Play{}, api.ErrMany
	}
	p, _, e := Parse(s)
	return p, e
}

func printPlay(p api.Play) string {
	list := []string{orNothing(p.Pitches), orNothing(p.Event)}
	if p.Late {
		list = append(list, lateWord)
	}
	for _, m := range p.Moves {
		list = append(list, printMove(m))
	}
	return strings.Join(list, " ")
}

func orNothing(s string) string {
	if s == "" {
		return nothing
	}
	return s
}

func printMove(m api.Move) string {
	var s strings.Builder
	s.WriteRune(digitOf(m.From))
	if m.Out {
		s.WriteByte('x')
	} else {
		s.WriteByte('-')
	}
	s.WriteRune(digitOf(m.To))
	s.WriteString(m.How)
	if len(m.By) > 0 {
		s.WriteByte(':')
	}
	for _, fielder := range m.By {
		s.WriteRune(digitOf(fielder))
	}
	return s.String()
}

// words visits the words of a string, each with the index of its first byte.
func words(s string) iter.Seq2[int, string] {
	return func(yield func(int, string) bool) {
		at := 0
		for {
			word, _, more := strings.Cut(s[at:], " ")
			if !yield(at, word) || !more {
				return
			}
			at += len(word) + 1
		}
	}
}

// findWrong returns the index of the first word of a play that is wrong, or of its end if a word is missing.
func findWrong(s string) (int, bool) {
	wrong, n := -1, 0
search:
	for at, word := range words(s) {
		var right bool
		switch n {
		case 0:
			right = isPitchesWord(word)
		case 1:
			right = word == nothing || isEvent(word)
		case 2:
			right = word == lateWord || isMoveWord(word)
		default:
			right = isMoveWord(word)
		}
		if !right {
			wrong = at
			break search
		}
		n++
	}
	if wrong >= 0 {
		return wrong, true
	}
	return len(s), n < 2
}

func isPitchesWord(word string) bool {
	return word == nothing || isMadeOf(word, isPitch)
}

func isMoveWord(word string) bool {
	if len(word) < 4 || word[1] != '-' && word[1] != 'x' {
		return false
	}
	if !isMadeOf(word[:1], isDigit) || !isMadeOf(word[2:3], isDigit) || !isMadeOf(word[3:4], isLower) {
		return false
	}
	return len(word) == 4 || word[4] == ':' && isMadeOf(word[5:], isDigit)
}

// isMadeOf reports whether a string has letters, and all of them are of a kind.
func isMadeOf(s string, kind func(rune) bool) bool {
	for _, r := range s {
		if !kind(r) {
			return false
		}
	}
	return s != ""
}

// readPlay returns the play of a string in which no word is wrong.
func readPlay(s string) api.Play {
	var p api.Play
	n := 0
	for _, word := range words(s) {
		switch {
		case n == 0:
			p.Pitches = orEmpty(word)
		case n == 1:
			p.Event = orEmpty(word)
		case word == lateWord:
			p.Late = true
		default:
			p.Moves = append(p.Moves, readMove(word))
		}
		n++
	}
	return p
}

func orEmpty(word string) string {
	if word == nothing {
		return ""
	}
	return word
}

func readMove(word string) api.Move {
	m := api.Move{From: valueOf(rune(word[0])), To: valueOf(rune(word[2])), Out: word[1] == 'x', How: word[3:4]}
	for _, r := range strings.TrimPrefix(word[4:], ":") {
		m.By = append(m.By, valueOf(r))
	}
	return m
}

func digitOf(n int) rune {
	return '0' + rune(n)
}

func valueOf(digit rune) int {
	return int(digit - '0')
}
