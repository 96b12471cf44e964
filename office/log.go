package office

import (
	"slices"
	"strconv"
	"strings"

	"dugout/api"
)

// The numbers of checksums.
const (
	factor    = 283
	modulus   = 9999931
	sumDigits = 7
)

// Append returns a log with one more record.
func Append(log string, e api.Event) (string, api.Errno) {
	l, _, err := Recover(log)
	h := history{events: l}
	if err = first(err, CheckEvent(e), h.checkNumber(e)); err != api.OK {
		return "", err
	}
	longer := log + record(e)
	if len(longer) > api.MaxLog {
		return "", api.ErrLong
	}
	return longer, api.OK
}

// Recover returns the events of the longest prefix that is a log, and the length of this prefix.
func Recover(log string) ([]api.Event, int, api.Errno) {
	if len(log) > api.MaxLog {
		return nil, 0, api.ErrLong
	}
	var h history
	at := 0
	for line := range strings.Lines(log) {
		e, err := readRecord(line)
		if err = first(err, h.checkNumber(e)); err != api.OK {
			return h.events, at, err
		}
		h.events = append(h.events, e)
		at += len(line)
	}
	return h.events, at, api.OK
}

// record returns the record of an event.
func record(e api.Event) string {
	s := body(e)
	return s + "#" + checksum(s) + "\n"
}

func body(e api.Event) string {
	words := slices.Concat([]string{strconv.Itoa(e.Number), e.Kind}, e.Names, transform(e.Values, strconv.Itoa))
	if e.Text != "" {
		words = append(words, e.Text)
	}
	return strings.Join(words, " ")
}

// checksum returns the checksum of a string, by its bytes.
func checksum(s string) string {
	x := 1
	for _, b := range []byte(s) {
		x = (factor*x + int(b)) % modulus
	}
	digits := strconv.Itoa(x)
	return strings.Repeat("0", sumDigits-len(digits)) + digits
}

// readRecord returns the event of a line of a log; its number may be any one.
func readRecord(line string) (api.Event, api.Errno) {
	s, isEnded := strings.CutSuffix(line, "\n")
	if !isEnded {
		return api.Event{}, api.ErrTorn
	}
	at := len(s) - sumDigits - 1
	if at < 0 || s[at] != '#' || !isDigits(s[at+1:]) {
		return api.Event{}, api.ErrSyntax
	}
	if checksum(s[:at]) != s[at+1:] {
		return api.Event{}, api.ErrCheck
	}
	e, isRight := readBody(s[:at])
	if !isRight || CheckEvent(e) != api.OK {
		return api.Event{}, api.ErrSyntax
	}
	return e, api.OK
}

// readBody returns the event with a body, and whether the string has the form of one.
func readBody(s string) (api.Event, bool) {
	w := words{rest: s}
	isRight := w.takeNumber() && w.takeEvent()
	return w.event, isRight
}

// readLine returns the event of a line of the console, without a number, and whether the line has the form of one.
func readLine(line string) (api.Event, bool) {
	w := words{rest: line}
	isRight := w.takeEvent()
	return w.event, isRight
}

// words takes the words of an event from a string. Each method reports whether what it takes is there, in its form.
type words struct {
	rest    string
	isEnded bool // there is no word in the rest, not even an empty one
	event   api.Event
}

// takeEvent takes all words of an event but its number.
func (w *words) takeEvent() bool {
	w.event.Kind, _ = w.take()
	k, known := kinds()[w.event.Kind]
	if !known {
		return false
	}
	parts := slices.Concat(
		slices.Repeat([]func() bool{w.takeName}, k.names),
		slices.Repeat([]func() bool{w.takeValue}, k.values),
	)
	if k.hasPlay {
		parts = append(parts, w.takeText)
	}
	for _, take := range parts {
		if !take() {
			return false
		}
	}
	return w.isEnded
}

// take takes a word that is not empty.
func (w *words) take() (string, bool) {
	word, rest, more := strings.Cut(w.rest, " ")
	isThere := !w.isEnded && word != ""
	w.rest, w.isEnded = rest, !more
	return word, isThere
}

func (w *words) takeNumber() bool {
	word, _ := w.take()
	return readNumber(word, &w.event.Number)
}

func (w *words) takeName() bool {
	word, isThere := w.take()
	w.event.Names = append(w.event.Names, word)
	return isThere
}

func (w *words) takeValue() bool {
	word, _ := w.take()
	w.event.Values = append(w.event.Values, 0)
	return readNumber(word, &w.event.Values[len(w.event.Values)-1])
}

// takeText takes all the rest, which is not empty if there is one.
func (w *words) takeText() bool {
	if w.isEnded {
		return true
	}
	w.event.Text, w.rest, w.isEnded = w.rest, "", true
	return w.event.Text != ""
}

// readNumber reads an integer from 0 to MaxNumber, which has at most 9 digits, without a sign and without leading zeros.
func readNumber(word string, n *int) bool {
	if !isDigits(word) || word[0] == '0' && word != "0" {
		return false
	}
	number, err := strconv.Atoi(word)
	*n = number
	return err == nil && number <= api.MaxNumber
}

// isDigits reports whether a string has digits alone, at least one.
func isDigits(s string) bool {
	for _, r := range s {
		if r < '0' || '9' < r {
			return false
		}
	}
	return s != ""
}
