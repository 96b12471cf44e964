package office

import (
	"slices"

	"dugout/api"
	"dugout/play"
	"dugout/rule"
)

// slots is the number of places of a batting order.
const slots = 9

// The fates of a turn.
const (
	toBat  = "bat"
	onBase = "on"
	isOut  = "out"
	isLeft = "left"
	hasRun = "run"
)

// fate is what became of a turn.
type fate struct {
	inning int
	side   int
	slot   int
	out    int
	word   string
}

// sheet is the cells of the plays so far, and by slots the index of the cell of each runner of the half that goes on.
type sheet struct {
	cells   []Cell
	runners [slots + 1]int
}

// Sheet returns the score sheet of a game.
func Sheet(plays []api.Play) ([]Cell, api.Errno) {
	states, _, _, err := rule.Replay(plays)
	if err != api.OK {
		return nil, err
	}
	var t sheet
	for at, p := range plays {
		t.follow(states[at], p)
	}
	return t.cells, api.OK
}

// ReadSheet returns the plays of a score sheet.
func ReadSheet(l []Cell) ([]api.Play, api.Errno) {
	isLong := func(c Cell) bool { return len(c.Plays) > api.MaxPlays }
	if len(l) > api.MaxPlays || slices.ContainsFunc(l, isLong) {
		return nil, api.ErrMany
	}
	var plays []api.Play
	for _, s := range slices.Concat(transform(l, func(c Cell) []string { return c.Plays })...) {
		p, _, err := play.Parse(s)
		if err != api.OK {
			return nil, err
		}
		plays = append(plays, p)
	}
	cells, err := Sheet(plays)
	if err != api.OK {
		return nil, err
	}
	if !slices.EqualFunc(l, cells, Cell.isLike) {
		return nil, api.ErrProof
	}
	return plays, api.OK
}

// follow adds a play, which follows in a state.
func (t *sheet) follow(s rule.State, p api.Play) {
	batter, _ := rule.Batter(s)
	t.seat(fate{s.Inning, s.Half, batter, 0, toBat})
	t.write(batter, p)
	slotOf := [...]int{batter, s.Bases[0], s.Bases[1], s.Bases[2]}
	outs := s.Outs
	for _, m := range p.Moves {
		c := t.cell(slotOf[m.From])
		if m.Out {
			outs++
			c.Out, c.Fate = outs, isOut
		} else {
			c.Path = append(c.Path, m.To)
		}
	}
	scored, _ := rule.Scored(s, p)
	left, _ := rule.Left(s, p)
	t.end(hasRun, scored...)
	t.end(isLeft, left...)
}

// seat begins a cell, unless the last one is that of the same turn, which still goes on.
func (t *sheet) seat(begun fate) {
	last := len(t.cells) - 1
	if last >= 0 && t.cells[last].fate() == begun {
		return
	}
	t.runners[begun.slot] = len(t.cells)
	t.cells = append(t.cells, Cell{Inning: begun.inning, Side: begun.side, Slot: begun.slot, Fate: begun.word})
}

// write writes a play into the cell of the batter.
func (t *sheet) write(batter int, p api.Play) {
	s, _ := play.Print(p)
	c := t.cell(batter)
	c.Plays = append(c.Plays, s)
	if p.Event != "" {
		c.Fate = onBase
	}
}

// end gives a fate to runners.
func (t *sheet) end(word string, runners ...int) {
	for _, slot := range runners {
		t.cell(slot).Fate = word
	}
}

// cell returns the cell of a runner.
func (t *sheet) cell(slot int) *Cell {
	return &t.cells[t.runners[slot]]
}

func (c Cell) fate() fate {
	return fate{c.Inning, c.Side, c.Slot, c.Out, c.Fate}
}

// isLike reports whether two cells say the same.
func (c Cell) isLike(other Cell) bool {
	return c.fate() == other.fate() && slices.Equal(c.Plays, other.Plays) && slices.Equal(c.Path, other.Path)
}
