package rule

import (
	"strconv"
	"strings"

	"dugout/api"
)

// The letters of both halves, and the words of a game that is on and of one that is over.
const (
	halfLetters = "tb"
	onWord      = "on"
	overWord    = "over"
)

// Print returns the string of a state.
func Print(s State) (string, api.Errno) {
	if e := CheckState(s); e != api.OK {
		return "", e
	}
	end := onWord
	if s.Over {
		end = overWord
	}
	return strings.Join([]string{
		strconv.Itoa(s.Inning) + halfLetters[s.Half:s.Half+1],
		strconv.Itoa(s.Outs),
		strconv.Itoa(s.Balls) + "-" + strconv.Itoa(s.Strikes),
		printDigits(s.Bases[:]),
		printDigits(s.Next[:]),
		strconv.Itoa(s.Score[0]) + ":" + strconv.Itoa(s.Score[1]),
		end,
	}, " "), api.OK
}

// Parse returns the state of a string.
func Parse(s string) (State, api.Errno) {
	if len(s) > api.MaxText {
		return State{}, api.ErrLong
	}
	var r reader
	if !r.read(strings.Split(s, " ")) {
		return State{}, api.ErrSyntax
	}
	if e := CheckState(r.state); e != api.OK {
		return State{}, e
	}
	return r.state, api.OK
}

func printDigits(digits []int) string {
	return strings.Join(transform(digits, strconv.Itoa), "")
}

// reader reads the words of a state; the method for each word reports whether the word has its form.
type reader struct {
	state State
}

func (r *reader) read(words []string) bool {
	parts := []func(string) bool{r.readInning, r.readOuts, r.readCount, r.readBases, r.readNext, r.readScore, r.readEnd}
	if len(words) != len(parts) {
		return false
	}
	for i, word := range words {
		if !parts[i](word) {
			return false
		}
	}
	return true
}

func (r *reader) readInning(word string) bool {
	for half, letter := range halfLetters {
		if number, found := strings.CutSuffix(word, string(letter)); found {
			r.state.Half = half
			return readNumber(number, &r.state.Inning)
		}
	}
	return false
}

func (r *reader) readOuts(word string) bool {
	return readNumber(word, &r.state.Outs)
}

func (r *reader) readCount(word string) bool {
	return readPair(word, "-", &r.state.Balls, &r.state.Strikes)
}

func (r *reader) readBases(word string) bool {
	return readDigits(word, r.state.Bases[:])
}

func (r *reader) readNext(word string) bool {
	return readDigits(word, r.state.Next[:])
}

func (r *reader) readScore(word string) bool {
	return readPair(word, ":", &r.state.Score[0], &r.state.Score[1])
}

func (r *reader) readEnd(word string) bool {
	r.state.Over = word == overWord
	return word == overWord || word == onWord
}

func readPair(word, between string, left, right *int) bool {
	a, b, found := strings.Cut(word, between)
	return found && readNumber(a, left) && readNumber(b, right)
}

// readNumber reads an integer from 0 to MaxNumber, without leading zeros.
func readNumber(word string, n *int) bool {
	if word == "" || word[0] == '0' && word != "0" {
		return false
	}
	*n = 0
	for _, r := range word {
		if !isDigit(r) {
			return false
		}
		*n = *n*10 + int(r-'0')
		if *n > api.MaxNumber {
			return false
		}
	}
	return true
}

// readDigits reads as many digits as there are numbers.
func readDigits(word string, numbers []int) bool {
	if len(word) != len(numbers) {
		return false
	}
	for i, r := range word {
		if !isDigit(r) {
			return false
		}
		numbers[i] = int(r - '0')
	}
	return true
}

func isDigit(r rune) bool {
	return '0' <= r && r <= '9'
}
