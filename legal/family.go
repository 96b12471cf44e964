package legal

import (
	"slices"
	"strings"

	"dugout/api"
	"dugout/play"
	"dugout/rule"
)

// maxFamilyEvents is the number of different events, with the empty one.
const maxFamilyEvents = 8

// The lists of the menu are arrays, so that each caller gets a copy.
var (
	menuPitches = [...]string{"X", "BBBB", "CCC", ""}
	menuEvents  = [...]string{"X", "W", "K", ""}
	menuTouches = [...]int{6, 3}
)

// CheckFamily returns the first error of a family, or OK.
func CheckFamily(f Family) api.Errno {
	return first(
		checkStrings(f.Pitches, MaxStrings, checkPitches),
		checkStrings(f.Events, maxFamilyEvents, checkEvent),
		checkLetters(f.Safe, false),
		checkLetters(f.Outs, true),
		checkTouches(f.By),
	)
}

// Menu returns a family for a first look.
func Menu() Family {
	pitches, events, touches := menuPitches, menuEvents, menuTouches
	return Family{Pitches: pitches[:], Events: events[:], Safe: "bas", Outs: "fck", By: touches[:]}
}

// Join returns the family with all that two families have.
func Join(f, g Family) (Family, api.Errno) {
	if e := first(CheckFamily(f), CheckFamily(g)); e != api.OK {
		return Family{}, e
	}
	joined := Family{
		Pitches: joinStrings(f.Pitches, g.Pitches),
		Events:  joinStrings(f.Events, g.Events),
		Safe:    joinLetters(f.Safe, g.Safe),
		Outs:    joinLetters(f.Outs, g.Outs),
		By:      slices.Clone(f.By),
		Late:    f.Late || g.Late,
	}
	if e := CheckFamily(joined); e != api.OK {
		return Family{}, e
	}
	return joined, api.OK
}

// Size returns the number of combinations of a family in a state.
func Size(s rule.State, f Family) (int, api.Errno) {
	if e := first(checkOn(s), CheckFamily(f)); e != api.OK {
		return 0, e
	}
	n := size(s, f)
	if n > api.MaxNumber {
		return 0, api.ErrLimit
	}
	return n, api.OK
}

// checkStrings returns the first error of a list of different strings.
func checkStrings(l []string, most int, check func(string) api.Errno) api.Errno {
	if len(l) == 0 {
		return api.ErrEmpty
	}
	if len(l) > most {
		return api.ErrMany
	}
	for i, s := range l {
		if e := check(s); e != api.OK {
			return e
		}
		if slices.Contains(l[:i], s) {
			return api.ErrTwice
		}
	}
	return api.OK
}

func checkPitches(pitches string) api.Errno {
	return play.CheckPlay(api.Play{Pitches: pitches})
}

func checkEvent(event string) api.Errno {
	return play.CheckPlay(api.Play{Event: event})
}

// checkLetters returns the first error of the letters of different ways.
func checkLetters(letters string, out bool) api.Errno {
	for i, letter := range letters {
		if !isWay(string(letter), out) {
			return api.ErrKind
		}
		if strings.ContainsRune(letters[:i], letter) {
			return api.ErrTwice
		}
	}
	return api.OK
}

// isWay reports whether a letter is a way of outs, or of safe moves. A move in such a way may be wrong, but not for its kind.
func isWay(letter string, out bool) bool {
	return play.CheckMove(api.Move{From: 1, To: 2, Out: out, How: letter}) != api.ErrKind
}

// checkTouches returns the error of an out that has these touches.
func checkTouches(by []int) api.Errno {
	return play.CheckMove(api.Move{From: 0, To: 1, Out: true, How: "f", By: by})
}

func joinStrings(f, g []string) []string {
	added := filter(g, func(s string) bool { return !slices.Contains(f, s) })
	return slices.Concat(f, added)
}

func joinLetters(f, g string) string {
	joined := f
	for _, letter := range g {
		if !strings.ContainsRune(f, letter) {
			joined += string(letter)
		}
	}
	return joined
}
