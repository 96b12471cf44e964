package credit

import (
	"strconv"
	"strings"

	"dugout/api"
)

// maxDigits is the greatest number of digits of an integer.
const maxDigits = 9

// Print returns the string of totals.
func Print(t []Total) (string, api.Errno) {
	if e := CheckTotals(t); e != api.OK {
		return "", e
	}
	var text strings.Builder
	for _, x := range t {
		words := []string{strconv.Itoa(x.Side), x.Kind, strconv.Itoa(x.Slot), strconv.Itoa(x.Position), strconv.Itoa(x.N)}
		text.WriteString(strings.Join(words, " "))
		text.WriteByte('\n')
	}
	return text.String(), api.OK
}

// Parse returns the totals of a string, or the index of the first line that is wrong.
func Parse(s string) ([]Total, int, api.Errno) {
	if len(s) > api.MaxLog {
		return nil, 0, api.ErrLong
	}
	var l []Total
	for line := range strings.Lines(s) {
		var r reader
		if !r.read(line) {
			return nil, len(l), api.ErrSyntax
		}
		l = append(l, r.total)
	}
	if e := CheckTotals(l); e != api.OK {
		return nil, len(l), e
	}
	return l, 0, api.OK
}

// reader reads the words of a line; the method for each word reports whether the word has its form.
type reader struct {
	total Total
}

func (r *reader) read(line string) bool {
	s, ended := strings.CutSuffix(line, "\n")
	words := strings.Split(s, " ")
	parts := []func(string) bool{r.readSide, r.readKind, r.readSlot, r.readPosition, r.readN}
	if !ended || len(words) != len(parts) {
		return false
	}
	for i, word := range words {
		if !parts[i](word) {
			return false
		}
	}
	return true
}

func (r *reader) readSide(word string) bool {
	return readNumber(word, &r.total.Side)
}

func (r *reader) readKind(word string) bool {
	r.total.Kind = word
	return word != ""
}

func (r *reader) readSlot(word string) bool {
	return readNumber(word, &r.total.Slot)
}

func (r *reader) readPosition(word string) bool {
	return readNumber(word, &r.total.Position)
}

// readN reads an integer that may be negative.
func (r *reader) readN(word string) bool {
	digits, isNegative := strings.CutPrefix(word, "-")
	if !readNumber(digits, &r.total.N) {
		return false
	}
	if isNegative {
		r.total.N = -r.total.N
		return r.total.N != 0
	}
	return true
}

// readNumber reads an integer without a sign and without leading zeros.
func readNumber(word string, n *int) bool {
	if word == "" || len(word) > maxDigits || word[0] == '0' && word != "0" {
		return false
	}
	*n = 0
	for _, r := range word {
		if r < '0' || '9' < r {
			return false
		}
		*n = *n*10 + int(r-'0')
	}
	return true
}
