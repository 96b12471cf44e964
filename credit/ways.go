package credit

import (
	"cmp"
	"slices"

	"dugout/api"
)

// How a way ends.
const (
	endsInRun  = "run"
	endsInOut  = "out"
	endsInLeft = "left"
	staysOn    = "on"
)

// trails are the ways of the plays so far: those that have ended, and, by slots, those of the side that bats that go on. (A way without a slot is none. At the end of a half all ways have ended.)
type trails struct {
	ended []Way
	on    [slots + 1]Way
}

// Ways returns the way of each batter around the bases.
func Ways(plays []api.Play) ([]Way, api.Errno) {
	g, e := newGame(plays)
	if e != api.OK {
		return nil, e
	}
	var t trails
	for s := range g.scenes() {
		t.follow(s)
	}
	for slot := range t.on {
		t.end(slot, len(plays)-1, staysOn)
	}
	slices.SortFunc(t.ended, func(a, b Way) int { return cmp.Compare(a.Turn, b.Turn) })
	return t.ended, api.OK
}

// follow adds a play. Its moves come from the highest base on, so whoever has moved is above those who are still to move.
func (t *trails) follow(s scene) {
	if s.endsTurn() {
		t.on[s.batter()] = Way{Side: s.state.Half, Slot: s.batter(), Turn: s.at}
	}
	for _, m := range s.play.Moves {
		slot := t.from(m.From)
		if m.Out {
			t.end(slot, s.at, endsInOut)
		} else {
			t.on[slot].Steps = append(t.on[slot].Steps, Step{s.at, m.From, m.To})
		}
	}
	for _, slot := range s.scored {
		t.end(slot, s.at, endsInRun)
	}
	for _, slot := range s.left {
		t.end(slot, s.at, endsInLeft)
	}
}

// from returns the slot whose way has come to a base, or begins (0).
func (t *trails) from(base int) int {
	found := 0
search:
	for slot, w := range t.on {
		switch {
		case w.Slot == 0:
			continue
		case place(w) == base:
			found = slot
			break search
		}
	}
	return found
}

// end ends the way of a slot, if it has one.
func (t *trails) end(slot, at int, how string) {
	w := t.on[slot]
	if w.Slot == 0 {
		return
	}
	w.Last, w.End = at, how
	t.ended = append(t.ended, w)
	t.on[slot] = Way{}
}

// place returns the base to which a way has come.
func place(w Way) int {
	if n := len(w.Steps); n > 0 {
		return w.Steps[n-1].To
	}
	return 0
}
