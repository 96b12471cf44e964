package box

import (
	"slices"
	"strconv"
	"strings"

	"dugout/api"
)

// The words with which lines begin.
const (
	inningsWord = "innings"
	restWord    = "rest"
	lineWord    = "line"
)

const (
	headLines  = 2         // lines of a text before those of players
	maxInteger = 999999999 // the greatest integer of nine digits
)

// Print returns the string of a box.
func Print(b Box) (string, api.Errno) {
	if e := CheckBox(b); e != api.OK {
		return "", e
	}
	var text strings.Builder
	writeLine(&text, inningsWord, transform(b.Innings, func(runs [2]int) string {
		return strconv.Itoa(runs[0]) + ":" + strconv.Itoa(runs[1])
	})...)
	writeLine(&text, restWord, transform(b.Rest[:], strconv.Itoa)...)
	for _, l := range b.Lines {
		words := []string{strconv.Itoa(l.Side), l.Player}
		writeLine(&text, lineWord, append(words, transform(l.Counts[:], strconv.Itoa)...)...)
	}
	return text.String(), api.OK
}

func writeLine(text *strings.Builder, name string, words ...string) {
	text.WriteString(name)
	for _, word := range words {
		text.WriteByte(' ')
		text.WriteString(word)
	}
	text.WriteByte('\n')
}

// Parse returns the box of a string, or the index of the first line that is wrong.
func Parse(s string) (Box, int, api.Errno) {
	if len(s) > api.MaxLog {
		return Box{}, 0, api.ErrLong
	}
	var r reader
	n := 0
	for line := range strings.Lines(s) {
		if !r.readLine(line, n) {
			return Box{}, n, api.ErrSyntax
		}
		n++
	}
	if n < headLines {
		return Box{}, n, api.ErrTorn
	}
	if e := CheckBox(r.box); e != api.OK {
		return Box{}, 0, e
	}
	return r.box, 0, api.OK
}

// reader reads the lines of a box; the method for each word reports whether the word has its form.
type reader struct {
	box     Box
	player  string
	numbers []int // of the line that is read, in the order of its words
}

// wordReader reads a word, and reports whether it has its form.
type wordReader func(string) bool

// readLine reads the line with an index, and reports whether it has its form.
func (r *reader) readLine(line string, at int) bool {
	s, ended := strings.CutSuffix(line, "\n")
	if !ended {
		return false
	}
	r.numbers = nil
	words := strings.Split(s, " ")
	switch at {
	case 0:
		return r.readInnings(words)
	case 1:
		return r.readRest(words)
	}
	return r.readCounts(words)
}

func (r *reader) readInnings(words []string) bool {
	return read(words, inningsWord, slices.Repeat([]wordReader{r.readRuns}, len(words)-1)...)
}

func (r *reader) readRest(words []string) bool {
	right := read(words, restWord, r.readNumber, r.readNumber)
	copy(r.box.Rest[:], r.numbers)
	return right
}

func (r *reader) readCounts(words []string) bool {
	counts := slices.Repeat([]wordReader{r.readNumber}, MaxKinds)
	if !read(words, lineWord, slices.Concat([]wordReader{r.readNumber, r.readPlayer}, counts)...) {
		return false
	}
	l := Line{Side: r.numbers[0], Player: r.player}
	copy(l.Counts[:], r.numbers[1:])
	r.box.Lines = append(r.box.Lines, l)
	return true
}

// read reports whether some words are a name and, behind it, words that have the form of some parts.
func read(words []string, name string, parts ...wordReader) bool {
	if words[0] != name || len(words) != len(parts)+1 {
		return false
	}
	for i, read := range parts {
		if !read(words[i+1]) {
			return false
		}
	}
	return true
}

func (r *reader) readPlayer(word string) bool {
	r.player = word
	return word != ""
}

// readRuns reads the runs of both sides in an inning.
func (r *reader) readRuns(word string) bool {
	visitors, home, both := strings.Cut(word, ":")
	if !both || !r.readNumber(visitors) || !r.readNumber(home) {
		return false
	}
	last := len(r.numbers) - 1
	r.box.Innings = append(r.box.Innings, [2]int{r.numbers[last-1], r.numbers[last]})
	return true
}

// readNumber reads an integer, which has just the form in which it is printed.
func (r *reader) readNumber(word string) bool {
	n, err := strconv.Atoi(word)
	r.numbers = append(r.numbers, n)
	return err == nil && strconv.Itoa(n) == word && within(n, -maxInteger, maxInteger)
}
