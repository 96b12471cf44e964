package season

import (
	"slices"
	"strconv"
	"strings"

	"dugout/api"
)

// The forms of lines: n stands for a name, i for an integer.
const (
	headForm = "niinnii"
	lineForm = "nniiiiiiiiiiii"
)

// Print returns the string of a game.
func Print(g Game) (string, api.Errno) {
	if e := CheckGame(g); e != api.OK {
		return "", e
	}
	return g.text(), api.OK
}

// text returns the string of a game.
func (g Game) text() string {
	var text strings.Builder
	head := []string{g.Name, strconv.Itoa(g.Version), strconv.Itoa(g.Day), g.Teams[0], g.Teams[1]}
	writeLine(&text, head, g.Score[:])
	for _, l := range g.Lines {
		writeLine(&text, []string{l.Player, l.Team}, l.Counts[:])
	}
	return text.String()
}

// writeLine writes a line of some words, and of numbers behind them.
func writeLine(text *strings.Builder, words []string, numbers []int) {
	text.WriteString(strings.Join(slices.Concat(words, transform(numbers, strconv.Itoa)), " "))
	text.WriteByte('\n')
}

// Parse returns the game with a string, or the index of the first line that is wrong.
func Parse(s string) (Game, int, api.Errno) {
	if len(s) > api.MaxLog {
		return Game{}, 0, api.ErrLong
	}
	g, n, isRight := readLines(s)
	if !isRight {
		return Game{}, n, api.ErrSyntax
	}
	if e := CheckGame(g); e != api.OK {
		return Game{}, n, e
	}
	return g, 0, api.OK
}

// readLines returns the game of a string, the number of its lines before the first one that is wrong, and whether there is a line, and none is wrong.
func readLines(s string) (Game, int, bool) {
	var g Game
	n, isRight := 0, false
lines:
	for line := range strings.Lines(s) {
		var x words
		switch {
		case n == 0 && x.read(line, headForm):
			g = Game{Name: x.names[0], Version: x.numbers[0], Day: x.numbers[1], Teams: [2]string(x.names[1:]), Score: [2]int(x.numbers[2:])}
		case n > 0 && x.read(line, lineForm):
			g.Lines = append(g.Lines, Line{x.names[0], x.names[1], [MaxKinds]int(x.numbers)})
		default:
			isRight = false
			break lines
		}
		isRight = true
		n++
	}
	return g, n, isRight
}

// words are the words of a line by what they stand for.
type words struct {
	names   []string
	numbers []int
}

// read reads the words of a line, and reports whether it has a form. A name may be any word here.
func (x *words) read(line, form string) bool {
	s, isEnded := strings.CutSuffix(line, "\n")
	l := strings.Split(s, " ")
	if !isEnded || len(l) != len(form) {
		return false
	}
	for i, word := range l {
		if form[i] == 'n' {
			x.names = append(x.names, word)
			continue
		}
		n, isNumber := readNumber(word)
		if !isNumber {
			return false
		}
		x.numbers = append(x.numbers, n)
	}
	return true
}

// readNumber reads an integer of at most 9 digits, without a sign and without leading zeros.
func readNumber(word string) (int, bool) {
	n, err := strconv.Atoi(word)
	return n, err == nil && strconv.Itoa(n) == word && within(n, 0, api.MaxNumber)
}
