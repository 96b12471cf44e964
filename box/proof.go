package box

import (
	"dugout/api"
	"dugout/credit"
)

// account is what the equations for a side are about.
type account struct {
	own   kindSums // of its players
	other kindSums // of the players of the other side
	runs  int      // in all innings
	rest  int
}

// kindSums are sums of counts by the names of their kinds.
type kindSums map[string]int

// equation is a condition that the box of any plays satisfies for each side.
type equation struct {
	name  string
	holds func(account) bool
}

// equations returns the equations, in order.
func equations() []equation {
	return []equation{
		{"turns", func(x account) bool { return x.own["turn"] == x.own.of("ab", "w", "hp", "ci", "sac") }},
		{"bases", func(x account) bool { return x.own["turn"] == x.own.of("r", "lob")+x.other["out"]+x.rest }},
		{"hits", func(x account) bool { return x.own.of("d", "t", "hr") <= x.own["h"] }},
		{"runs", gives("r", "ra")},
		{"hits against", gives("h", "ha")},
		{"walks", gives("w", "wa")},
		{"strikeouts", gives("k", "ka")},
		{"hit batters", gives("hp", "hb")},
		{"putouts", func(x account) bool { return x.other["po"] == x.other["out"] }},
		{"innings", func(x account) bool { return x.own["r"] == x.runs }},
		{"batted in", func(x account) bool { return x.own["rbi"] <= x.own["r"] }},
	}
}

// gives returns whether what a side has of a kind is what the other side has of another one.
func gives(own, other string) func(account) bool {
	return func(x account) bool { return x.own[own] == x.other[other] }
}

// of returns the sum of the counts of some kinds.
func (s kindSums) of(kinds ...string) int {
	n := 0
	for _, kind := range kinds {
		n += s[kind]
	}
	return n
}

// Equations returns the equations of a box, in order.
func Equations() []string {
	return transform(equations(), func(x equation) string { return x.name })
}

// Prove returns OK for a box that balances, or the side and the number of the first equation that fails.
func Prove(b Box) (int, int, api.Errno) {
	if e := first(CheckBox(b), checkTotals(b)); e != api.OK {
		return 0, 0, e
	}
	for side := range 2 {
		x := newAccount(b, side)
		for i, condition := range equations() {
			if !condition.holds(x) {
				return side, i + 1, api.ErrBalance
			}
		}
	}
	return 0, 0, api.OK
}

// checkTotals returns ErrLarge if a sum of counts or of runs of a side is too large.
func checkTotals(b Box) api.Errno {
	for side := range 2 {
		t := totals(b, side)
		if e := first(checkNumbers(api.ErrLarge, t[:]...), checkNumbers(api.ErrLarge, runsOf(b, side))); e != api.OK {
			return e
		}
	}
	return api.OK
}

// newAccount returns what the equations for a side are about.
func newAccount(b Box, side int) account {
	return account{own: newSums(b, side), other: newSums(b, 1-side), runs: runsOf(b, side), rest: b.Rest[side]}
}

func newSums(b Box, side int) kindSums {
	s, t := kindSums{}, totals(b, side)
	for i, kind := range credit.Kinds() {
		s[kind] = t[i]
	}
	return s
}

// runsOf returns the runs of a side in all innings.
func runsOf(b Box, side int) int {
	n := 0
	for _, runs := range b.Innings {
		n += runs[side]
	}
	return n
}
