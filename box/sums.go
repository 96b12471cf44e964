package box

import (
	"slices"

	"dugout/api"
)

// sums are counts by players.
type sums map[holder][MaxKinds]int

// add adds a number to a count of a player.
func (s sums) add(h holder, kind, n int) {
	counts := s[h]
	counts[kind] += n
	s[h] = counts
}

// addLines adds lines so many times.
func (s sums) addLines(l []Line, times int) {
	for _, x := range l {
		for kind, n := range x.Counts {
			s.add(x.holder(), kind, times*n)
		}
	}
}

// lines returns the lines that are not blank, in their order.
func (s sums) lines() []Line {
	var l []Line
	for h, counts := range s {
		if x := (Line{h.side, h.player, counts}); !x.isBlank() {
			l = append(l, x)
		}
	}
	slices.SortFunc(l, func(a, b Line) int { return a.holder().compare(b.holder()) })
	return l
}

func (l Line) holder() holder {
	return holder{l.Side, l.Player}
}

// isBlank reports whether a line has no count other than 0.
func (l Line) isBlank() bool {
	return l == Line{Side: l.Side, Player: l.Player}
}

// CheckBox returns the first error of a box, or OK.
func CheckBox(b Box) api.Errno {
	if len(b.Lines) > MaxLines {
		return api.ErrMany
	}
	for i, l := range b.Lines {
		e := first(
			checkSide(l.Side),
			checkName(l.Player),
			checkNumbers(api.ErrRange, l.Counts[:]...),
			checkNotBlank(l),
			checkOrder(b.Lines[:i], l),
		)
		if e != api.OK {
			return e
		}
	}
	if len(b.Innings) > api.MaxExtra {
		return api.ErrMany
	}
	return checkNumbers(api.ErrRange, numbers(b)...)
}

// checkNumbers returns an error if one of some numbers is not within the limits of numbers.
func checkNumbers(wrong api.Errno, numbers ...int) api.Errno {
	for _, n := range numbers {
		if !within(n, -api.MaxNumber, api.MaxNumber) {
			return wrong
		}
	}
	return api.OK
}

// numbers returns the counts, the runs and the rest of a box.
func numbers(b Box) []int {
	l := slices.Clone(b.Rest[:])
	for _, runs := range b.Innings {
		l = append(l, runs[:]...)
	}
	for _, x := range b.Lines {
		l = append(l, x.Counts[:]...)
	}
	return l
}

func checkNotBlank(l Line) api.Errno {
	if l.isBlank() {
		return api.ErrZero
	}
	return api.OK
}

// checkOrder returns ErrOrder if a line does not come after the last one of those before it.
func checkOrder(before []Line, l Line) api.Errno {
	if n := len(before); n > 0 && before[n-1].holder().compare(l.holder()) >= 0 {
		return api.ErrOrder
	}
	return api.OK
}

// Merge returns the box of two parts together.
func Merge(a, b Box) (Box, api.Errno) {
	return combined(a, b, 1)
}

// Minus returns the differences of two boxes.
func Minus(a, b Box) (Box, api.Errno) {
	return combined(a, b, -1)
}

// combined returns a box with another one added so many times.
func combined(a, b Box, times int) (Box, api.Errno) {
	if e := first(CheckBox(a), CheckBox(b)); e != api.OK {
		return Box{}, e
	}
	s := sums{}
	s.addLines(a.Lines, 1)
	s.addLines(b.Lines, times)
	sum := Box{Lines: s.lines(), Innings: make([][2]int, max(len(a.Innings), len(b.Innings))), Rest: plus(a.Rest, b.Rest, times)}
	copy(sum.Innings, a.Innings)
	for i := range len(b.Innings) {
		sum.Innings[i] = plus(sum.Innings[i], b.Innings[i], times)
	}
	if len(sum.Lines) > MaxLines {
		return Box{}, api.ErrMany
	}
	if e := checkNumbers(api.ErrLarge, numbers(sum)...); e != api.OK {
		return Box{}, e
	}
	return sum, api.OK
}

// plus returns numbers of both sides with others added so many times.
func plus(a, b [2]int, times int) [2]int {
	return [2]int{a[0] + times*b[0], a[1] + times*b[1]}
}

// Totals returns the counts of all players of a side together.
func Totals(b Box, side int) ([MaxKinds]int, api.Errno) {
	if e := first(CheckBox(b), checkSide(side)); e != api.OK {
		return [MaxKinds]int{}, e
	}
	t := totals(b, side)
	if e := checkNumbers(api.ErrLarge, t[:]...); e != api.OK {
		return [MaxKinds]int{}, e
	}
	return t, api.OK
}

func totals(b Box, side int) [MaxKinds]int {
	var t [MaxKinds]int
	for _, l := range b.Lines {
		for kind, n := range l.Counts {
			if l.Side == side {
				t[kind] += n
			}
		}
	}
	return t
}

// LineOf returns the line of a player.
func LineOf(b Box, side int, player string) (Line, api.Errno) {
	if e := first(CheckBox(b), checkSide(side), checkName(player)); e != api.OK {
		return Line{}, e
	}
	return lineOf(b, holder{side, player})
}

func lineOf(b Box, h holder) (Line, api.Errno) {
	for _, l := range b.Lines {
		if l.holder() == h {
			return l, api.OK
		}
	}
	return Line{}, api.ErrUnknown
}
