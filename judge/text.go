package judge

import (
	"strconv"
	"strings"

	"dugout/api"
)

// lastBase is the greatest number of a base from which a move begins.
const lastBase = 3

// Print returns the string of a list.
func Print(l []api.Judgment) (string, api.Errno) {
	if len(l) > api.MaxJudgments {
		return "", api.ErrMany
	}
	var text strings.Builder
	for _, j := range l {
		if e := first(inRange(j), named(j)); e != api.OK {
			return "", e
		}
		writeLine(&text, strconv.Itoa(j.Play), strconv.Itoa(j.From), j.Kind, strconv.Itoa(j.Base), strconv.Itoa(j.Fielder))
	}
	return text.String(), api.OK
}

// Parse returns the judgments of a string, or the index of the first line that is wrong.
func Parse(s string) ([]api.Judgment, int, api.Errno) {
	if len(s) > api.MaxLog {
		return nil, 0, api.ErrLong
	}
	var l []api.Judgment
	n := 0
	for line := range strings.Lines(s) {
		j, e := readLine(line, n)
		if e != api.OK {
			return nil, n, e
		}
		l = append(l, j)
		n++
	}
	return l, 0, api.OK
}

func inRange(j api.Judgment) api.Errno {
	for _, n := range [...]int{j.Play, j.Base, j.Fielder} {
		if !within(n, 0, api.MaxNumber) {
			return api.ErrRange
		}
	}
	if !within(j.From, 0, lastBase) {
		return api.ErrRange
	}
	return api.OK
}

// named returns the error of the kind of a judgment, and of its number.
func named(j api.Judgment) api.Errno {
	rule, e := Rule(j.Kind)
	if e == api.OK && rule != j.Rule {
		return api.ErrRule
	}
	return e
}

func writeLine(text *strings.Builder, words ...string) {
	text.WriteString(strings.Join(words, " "))
	text.WriteByte('\n')
}

// readLine reads the line with an index.
func readLine(line string, at int) (api.Judgment, api.Errno) {
	var r reader
	s, ended := strings.CutSuffix(line, "\n")
	switch {
	case !ended || !r.read(s):
		return api.Judgment{}, api.ErrSyntax
	case at >= api.MaxJudgments:
		return api.Judgment{}, api.ErrMany
	}
	j := r.judgment
	rule, e := Rule(j.Kind)
	if e = first(inRange(j), e); e != api.OK {
		return api.Judgment{}, e
	}
	j.Rule = rule
	return j, api.OK
}

// reader reads the words of a line; the method for each word reports whether the word has its form.
type reader struct {
	judgment api.Judgment
}

func (r *reader) read(line string) bool {
	parts := []func(string) bool{r.readPlay, r.readFrom, r.readKind, r.readBase, r.readFielder}
	words := strings.Split(line, " ")
	if len(words) != len(parts) {
		return false
	}
	for i, word := range words {
		if !parts[i](word) {
			return false
		}
	}
	return true
}

func (r *reader) readPlay(word string) bool {
	return readNumber(word, &r.judgment.Play)
}

func (r *reader) readFrom(word string) bool {
	return readNumber(word, &r.judgment.From)
}

func (r *reader) readKind(word string) bool {
	r.judgment.Kind = word
	return word != ""
}

func (r *reader) readBase(word string) bool {
	return readNumber(word, &r.judgment.Base)
}

func (r *reader) readFielder(word string) bool {
	return readNumber(word, &r.judgment.Fielder)
}

// readNumber reads an integer from 0 to MaxNumber, which has at most 9 digits, without a sign and without leading zeros.
func readNumber(word string, n *int) bool {
	if word == "" || word[0] == '0' && word != "0" {
		return false
	}
	*n = 0
	for _, r := range word {
		if r < '0' || '9' < r {
			return false
		}
		*n = *n*10 + int(r-'0')
		if *n > api.MaxNumber {
			return false
		}
	}
	return true
}
