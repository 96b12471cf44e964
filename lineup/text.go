package lineup

import (
	"strconv"
	"strings"

	"dugout/api"
)

const (
	changeWord = "at"
	slotLines  = 2 * places // lines of a text before those of changes
)

// Print returns the text of teams and changes.
func Print(t Teams, l []Change) (string, api.Errno) {
	if e := CheckChanges(t, l); e != api.OK {
		return "", e
	}
	var text strings.Builder
	for side, lineup := range t {
		for slot, s := range slots(lineup) {
			writeLine(&text, strconv.Itoa(side), strconv.Itoa(slot), s.player, strconv.Itoa(s.position))
		}
	}
	for _, c := range l {
		writeLine(&text, changeWord, strconv.Itoa(c.Play), strconv.Itoa(c.Side), strconv.Itoa(c.Slot), c.Player, strconv.Itoa(c.Position))
	}
	return text.String(), api.OK
}

// Parse returns the teams and changes of a text, and the index of the first line that is wrong.
func Parse(s string) (Teams, []Change, int, api.Errno) {
	if len(s) > api.MaxText {
		return Teams{}, nil, 0, api.ErrLong
	}
	var t Teams
	var l []Change
	n := 0
	for line := range strings.Lines(s) {
		c, right := readLine(line, n)
		switch {
		case !right:
			return Teams{}, nil, n, api.ErrSyntax
		case n < slotLines:
			t = made(t, c)
		default:
			l = append(l, c)
		}
		n++
	}
	if n < slotLines {
		return Teams{}, nil, n, api.ErrTorn
	}
	if e := CheckChanges(t, l); e != api.OK {
		return Teams{}, nil, 0, e
	}
	return t, l, 0, api.OK
}

func writeLine(text *strings.Builder, words ...string) {
	text.WriteString(strings.Join(words, " "))
	text.WriteByte('\n')
}

// readLine reads the line with an index: a change, or a slot, which is read as a change of a slot that had nothing.
func readLine(line string, at int) (Change, bool) {
	s, ended := strings.CutSuffix(line, "\n")
	if !ended {
		return Change{}, false
	}
	var r reader
	if at >= slotLines {
		right := r.read(s, r.readWord, r.readPlay, r.readSide, r.readSlot, r.readPlayer, r.readPosition)
		return r.change, right
	}
	right := r.read(s, r.readSide, r.readSlot, r.readPlayer, r.readPosition)
	return r.change, right && r.change.Side == at/places && r.change.Slot == at%places+1
}

// reader reads the words of a line; the method for each word reports whether the word has its form.
type reader struct {
	change Change
}

func (r *reader) read(line string, parts ...func(string) bool) bool {
	words := strings.Split(line, " ")
	if len(words) != len(parts) {
		return false
	}
	for i, word := range words {
		if !parts[i](word) {
			return false
		}
	}
	return true
}

func (r *reader) readWord(word string) bool {
	return word == changeWord
}

func (r *reader) readPlay(word string) bool {
	return readNumber(word, &r.change.Play)
}

func (r *reader) readSide(word string) bool {
	return readNumber(word, &r.change.Side)
}

func (r *reader) readSlot(word string) bool {
	return readNumber(word, &r.change.Slot)
}

func (r *reader) readPlayer(word string) bool {
	r.change.Player = word
	return word != ""
}

func (r *reader) readPosition(word string) bool {
	return readNumber(word, &r.change.Position)
}

// readNumber reads an integer from 0 to MaxNumber, without a sign and without leading zeros.
func readNumber(word string, n *int) bool {
	if word == "" || word[0] == '0' && word != "0" {
		return false
	}
	*n = 0
	for _, r := range word {
		if r < '0' || '9' < r {
			return false
		}
		*n = *n*10 + int(r-'0')
		if *n > api.MaxNumber {
			return false
		}
	}
	return true
}
