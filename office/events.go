package office

import (
	"slices"

	"dugout/api"
	"dugout/judge"
	"dugout/play"
)

// closing is the kind of the event that closes a game.
const closing = "close"

// kind is a kind of events: how many names and values it has, whether its text is a play, and what it does to the history if it is accepted.
type kind struct {
	names   int
	values  int
	hasPlay bool
	effect  func(*history, api.Event) api.Errno
}

// kinds returns the kinds of events by their names.
func kinds() map[string]kind {
	return map[string]kind{
		"open":    {3, 1, false, onRegister(open)},
		"play":    {1, 1, true, onGame(addPlay)},
		"change":  {1, 2, true, onGame(changePlay)},
		"drop":    {1, 1, false, onGame(dropPlay)},
		"judge":   {2, 5, false, onGame(onJudgments(judge.Set))},
		"reverse": {2, 5, false, onGame(onJudgments(judge.Reverse))},
		closing:   {1, 1, false, onGame(closeGame)},
		"undo":    {0, 0, false, undo},
	}
}

// history is the events of an office, and the steps to which those that count have led.
type history struct {
	events []api.Event
	steps  []step
}

// step is the kind of an event that counts, and the register after it.
type step struct {
	kind     string
	register Register
}

// CheckEvent returns the first error of an event by itself, or OK.
func CheckEvent(e api.Event) api.Errno {
	k, known := kinds()[e.Kind]
	switch {
	case !within(e.Number, 1, api.MaxEvents):
		return api.ErrRange
	case !known:
		return api.ErrKind
	case len(e.Names) != k.names || len(e.Values) != k.values:
		return api.ErrShape
	}
	return first(checkNames(e.Names), checkValues(e.Values), k.checkText(e.Text))
}

// Replay returns the register after some events, or the number of the first one that is wrong.
func Replay(l []api.Event) (Register, int, api.Errno) {
	h, n, err := replay(l)
	return h.register(), n, err
}

// Accepts returns the error with which an event is not accepted after others, or OK.
func Accepts(l []api.Event, e api.Event) api.Errno {
	h, _, err := replay(l)
	if err != api.OK {
		return err
	}
	return h.add(e)
}

// AsOf returns the register of the events up to a day.
func AsOf(l []api.Event, day int) (Register, api.Errno) {
	h, _, err := replay(l)
	if err = first(err, checkValues([]int{day})); err != api.OK {
		return Register{}, err
	}
	isLater := func(s step) bool { return s.register.Day > day }
	if at := slices.IndexFunc(h.steps, isLater); at >= 0 {
		h.steps = h.steps[:at]
	}
	return h.register(), api.OK
}

// replay returns the history of some events, or the number of the first one that is wrong.
func replay(l []api.Event) (history, int, api.Errno) {
	if len(l) > api.MaxEvents {
		return history{}, 0, api.ErrMany
	}
	var h history
	for n, e := range numbered(l) {
		if err := h.add(e); err != api.OK {
			return history{}, n, err
		}
	}
	return h, 0, api.OK
}

// register returns the register after all events.
func (h *history) register() Register {
	if n := len(h.steps); n > 0 {
		return h.steps[n-1].register
	}
	return Register{}
}

// next returns the number of the next event.
func (h *history) next() int {
	return len(h.events) + 1
}

// add adds an event, or returns the error with which it is none, or is not accepted.
func (h *history) add(e api.Event) api.Errno {
	if err := first(CheckEvent(e), h.checkRoom(), h.checkNumber(e)); err != api.OK {
		return err
	}
	if err := kinds()[e.Kind].effect(h, e); err != api.OK {
		return err
	}
	h.events = append(h.events, e)
	return api.OK
}

// checkRoom returns ErrMany if there can be no further event.
func (h *history) checkRoom() api.Errno {
	if len(h.events) >= api.MaxEvents {
		return api.ErrMany
	}
	return api.OK
}

func (h *history) checkNumber(e api.Event) api.Errno {
	if e.Number != h.next() {
		return api.ErrOrder
	}
	return api.OK
}

// undo takes back the last step.
func undo(h *history, _ api.Event) api.Errno {
	last := len(h.steps) - 1
	switch {
	case last < 0:
		return api.ErrEmpty
	case h.steps[last].kind == closing:
		return api.ErrRule
	}
	h.steps = slices.Delete(h.steps, last, last+1)
	return api.OK
}

func checkNames(l []string) api.Errno {
	if !slices.ContainsFunc(l, func(s string) bool { return !play.IsName(s) }) {
		return api.OK
	}
	return api.ErrName
}

func checkValues(l []int) api.Errno {
	if !slices.ContainsFunc(l, func(n int) bool { return !within(n, 0, api.MaxNumber) }) {
		return api.OK
	}
	return api.ErrRange
}

// checkText returns ErrForm if a text is not that of an event of this kind.
func (k kind) checkText(text string) api.Errno {
	printed := ""
	if k.hasPlay {
		p, _, err := play.Parse(text)
		if err != api.OK {
			return api.ErrForm
		}
		printed, _ = play.Print(p)
	}
	if text != printed {
		return api.ErrForm
	}
	return api.OK
}
