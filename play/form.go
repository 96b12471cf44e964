package play

import (
	"strings"

	"dugout/api"
)

const (
	pitchLetters = "BCSFXH"
	eventLetters = "KWHIXNY"
)

// The numbers by which a permutation is drawn.
const (
	factor  = 40692
	modulus = 2147483399
)

// A reach says where a move may lead.
const (
	never   = iota // it is no move of this runner
	stay           // to his base
	next           // to the next base
	above          // to any higher base
	atLeast        // to his base or any higher one
)

// way is a way of a safe move or of an out, with its reach for the batter and for the runners on the bases.
type way struct {
	out    bool
	letter string
	batter int
	runner int
}

var ways = [...]way{
	{false, "b", above, above},
	{false, "a", above, above},
	{false, "s", never, above},
	{false, "p", above, above},
	{false, "k", never, above},
	{false, "t", above, above},
	{false, "o", above, above},
	{true, "f", next, next},
	{true, "g", above, atLeast},
	{true, "c", next, never},
	{true, "d", never, stay},
	{true, "k", next, never},
	{true, "n", next, above},
	{true, "y", next, never},
}

// IsName reports whether a string is a name.
func IsName(s string) bool {
	if !within(len(s), 1, api.MaxName) {
		return false
	}
	for i, r := range s {
		if !isLetter(r) && (i == 0 || !isDigit(r) && r != '_') {
			return false
		}
	}
	return true
}

// Draw returns the permutation of n elements by a key.
func Draw(key, n int) ([]int, api.Errno) {
	if !within(key, 1, modulus-1) || !within(n, 0, api.MaxList) {
		return nil, api.ErrRange
	}
	list := make([]int, n)
	for i := range n {
		list[i] = i
	}
	x := int64(key)
	for drawn := range n - 1 {
		i := n - 1 - drawn
		x = x * factor % modulus
		j := int(x % int64(i+1))
		list[i], list[j] = list[j], list[i]
	}
	return list, api.OK
}

// CheckMove returns the first error of a move, or OK.
func CheckMove(m api.Move) api.Errno {
	return first(checkFrom(m.From), checkTo(m.To), checkWay(m), checkTouches(m))
}

// CheckPlay returns the first error of a play by itself, or OK.
func CheckPlay(p api.Play) api.Errno {
	return first(checkPitches(p.Pitches), checkEvent(p.Event), checkMoves(p.Moves))
}

func checkFrom(from int) api.Errno {
	if !within(from, 0, 3) {
		return api.ErrRange
	}
	return api.OK
}

func checkTo(to int) api.Errno {
	if !within(to, 1, home) {
		return api.ErrRange
	}
	return api.OK
}

func checkWay(m api.Move) api.Errno {
	w, found := findWay(m.Out, m.How)
	if !found {
		return api.ErrKind
	}
	reach := w.runner
	if m.From == 0 {
		reach = w.batter
	}
	if !reaches(reach, m.From, m.To) {
		return api.ErrMove
	}
	return api.OK
}

func findWay(out bool, how string) (way, bool) {
	for _, w := range ways {
		if w.out == out && w.letter == how {
			return w, true
		}
	}
	return way{}, false
}

func reaches(reach, from, to int) bool {
	switch reach {
	case stay:
		return to == from
	case next:
		return to == from+1
	case above:
		return to > from
	case atLeast:
		return to >= from
	}
	return false
}

func checkTouches(m api.Move) api.Errno {
	if len(m.By) > api.MaxTouches || m.Out && len(m.By) == 0 {
		return api.ErrTouch
	}
	for i, fielder := range m.By {
		if !within(fielder, 1, 9) || i > 0 && fielder == m.By[i-1] {
			return api.ErrTouch
		}
	}
	return api.OK
}

func checkPitches(pitches string) api.Errno {
	if len(pitches) > api.MaxPitches {
		return api.ErrMany
	}
	for i, r := range pitches {
		if !isPitch(r) || isLastPitch(r) && i < len(pitches)-1 {
			return api.ErrPitch
		}
	}
	return api.OK
}

func checkEvent(event string) api.Errno {
	if event != "" && !isEvent(event) {
		return api.ErrKind
	}
	return api.OK
}

func checkMoves(moves []api.Move) api.Errno {
	if len(moves) > MaxMoves {
		return api.ErrMany
	}
	for i, m := range moves {
		if e := CheckMove(m); e != api.OK {
			return e
		}
		if i > 0 && m.From >= moves[i-1].From {
			return api.ErrOrder
		}
	}
	return api.OK
}

// isEvent reports whether a string is the letter of an event.
func isEvent(s string) bool {
	return len(s) == 1 && strings.Contains(eventLetters, s)
}

func isPitch(r rune) bool {
	return strings.ContainsRune(pitchLetters, r)
}

// isLastPitch reports whether no pitch follows this one, whatever the count.
func isLastPitch(r rune) bool {
	return r == 'X' || r == 'H'
}

func isLetter(r rune) bool {
	return isLower(r) || 'A' <= r && r <= 'Z'
}

func isLower(r rune) bool {
	return 'a' <= r && r <= 'z'
}

func isDigit(r rune) bool {
	return '0' <= r && r <= '9'
}
