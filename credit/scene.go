package credit

import (
	"slices"

	"dugout/api"
	"dugout/play"
	"dugout/rule"
)

// The kinds of judgments on which credits rest.
const (
	hit       = "hit"
	life      = "life"
	fault     = "error" // error is a type of the language
	wild      = "wild"
	passed    = "passed"
	steal     = "steal"
	sacrifice = "sacrifice"
)

// home is the base at which a run is made.
const home = 4

// scene is a play of a game, with what its credits depend on.
type scene struct {
	at        int // the index of the play
	play      api.Play
	state     rule.State     // before the play
	judgments []api.Judgment // those of the complete list about the play
	scored    []int          // the slots of those whose runs count
	left      []int          // the slots of those who are left on base
}

// tally counts the credits of a kind in a play by slots or positions.
type tally map[int]int

// toBatter returns a function that counts one for the batter if something is true of the play.
func toBatter(is func(scene) bool) func(scene, tally) {
	return func(s scene, t tally) {
		if is(s) {
			t[s.batter()]++
		}
	}
}

// toFielder returns a function that counts one for a position if something is true of the play.
func toFielder(position int, is func(scene) bool) func(scene, tally) {
	return func(s scene, t tally) {
		if is(s) {
			t[position]++
		}
	}
}

// event returns whether a play has an event.
func event(name string) func(scene) bool {
	return func(s scene) bool { return s.play.Event == name }
}

// judged returns whether there is a judgment of a kind about a play. If the kind is one of judgments about the batter alone, it is about him.
func judged(name string) func(scene) bool {
	return func(s scene) bool { return len(s.judgedAs(name)) > 0 }
}

// hitOf returns whether the batter has a hit with a number of bases.
func hitOf(bases int) func(scene) bool {
	return func(s scene) bool {
		return slices.ContainsFunc(s.judgedAs(hit), func(j api.Judgment) bool { return j.Base == bases })
	}
}

func (s scene) batter() int {
	return s.state.Next[s.state.Half]
}

// slot returns the slot of who began on a base, or of the batter.
func (s scene) slot(from int) int {
	if from == 0 {
		return s.batter()
	}
	return s.state.Bases[from-1]
}

// judgedAs returns the judgments of some kinds.
func (s scene) judgedAs(names ...string) []api.Judgment {
	return filter(s.judgments, func(j api.Judgment) bool { return slices.Contains(names, j.Kind) })
}

func (s scene) outs() []api.Move {
	return filter(s.play.Moves, func(m api.Move) bool { return m.Out })
}

func (s scene) endsTurn() bool {
	return s.play.Event != ""
}

func (s scene) isAtBat() bool {
	switch s.play.Event {
	case "K", "X", "N", "Y":
		return len(s.judgedAs(sacrifice)) == 0
	}
	return false
}

// hasBalk reports whether a runner has a safe move by k; the batter has none.
func (s scene) hasBalk() bool {
	return slices.ContainsFunc(s.play.Moves, func(m api.Move) bool { return !m.Out && m.How == "k" })
}

func (s scene) countRuns(t tally) {
	for _, slot := range s.scored {
		t[slot]++
	}
}

func (s scene) countRunsAgainst(t tally) {
	for range s.scored {
		t[pitcher]++
	}
}

func (s scene) countLeft(t tally) {
	for _, slot := range s.left {
		t[slot]++
	}
}

func (s scene) countBattedIn(t tally) {
	switch s.play.Event {
	case "X", "Y", "W", "H", "I":
	default:
		return
	}
	if len(filter(s.outs(), func(m api.Move) bool { return m.How == "f" })) >= 2 {
		return
	}
	for _, m := range s.play.Moves {
		if s.isBattedIn(m) {
			t[s.batter()]++
		}
	}
}

// isBattedIn reports whether a move brought a run that counts, on the batted ball or by an award, and not by an error.
func (s scene) isBattedIn(m api.Move) bool {
	isError := func(j api.Judgment) bool { return j.From == m.From }
	isRun := !m.Out && m.To == home && slices.Contains(s.scored, s.slot(m.From))
	return isRun && (m.How == "b" || m.How == "a") && !slices.ContainsFunc(s.judgedAs(fault), isError)
}

func (s scene) countSteals(t tally) {
	for _, j := range s.judgedAs(steal) {
		t[s.slot(j.From)]++
	}
}

func (s scene) countCaught(t tally) {
	if s.play.Event == "X" || s.play.Event == "Y" {
		return
	}
	for _, m := range s.outs() {
		if m.From > 0 && m.How == "g" && m.To > m.From {
			t[s.slot(m.From)]++
		}
	}
}

func (s scene) countPutouts(t tally) {
	putouts, _ := play.Putouts(s.play)
	for _, position := range putouts {
		t[position]++
	}
}

func (s scene) countAssists(t tally) {
	for _, m := range s.outs() {
		assists, _ := play.Assists(s.play, m.From)
		for _, position := range assists {
			t[position]++
		}
	}
}

func (s scene) countErrors(t tally) {
	for _, j := range s.judgedAs(life, fault) {
		t[j.Fielder]++
	}
}

func (s scene) countDouble(t tally) {
	if len(s.outs()) < 2 {
		return
	}
	helped := tally{}
	s.countPutouts(helped)
	s.countAssists(helped)
	for position := range helped {
		t[position] = 1
	}
}

func (s scene) countOuts(t tally) {
	for range s.outs() {
		t[pitcher]++
	}
}

// credits returns the credits of the play, by the order of kinds, then by slots and positions.
func (s scene) credits() []Credit {
	var l []Credit
	for _, k := range kinds() {
		t := tally{}
		k.count(s, t)
		for who := range max(slots, positions) {
			if n := t[who+1]; n > 0 {
				l = append(l, s.credit(k, who+1, n))
			}
		}
	}
	return l
}

// credit returns a number of credits of a kind for a slot or a position.
func (s scene) credit(k kind, who, n int) Credit {
	c := Credit{Play: s.at, Side: s.state.Half, Kind: k.name, Slot: who, N: n}
	if k.inField {
		c.Side, c.Slot, c.Position = 1-s.state.Half, 0, who
	}
	return c
}
