package rule

import "dugout/api"

// Replay returns the states before each play, and the one after the last one.
func Replay(l []api.Play) ([]State, int, int, api.Errno) {
	states := []State{Start()}
	at, broken, e := replay(l, func(_ int, t *turn) { states = append(states, t.next()) })
	if e != api.OK {
		return nil, at, broken, e
	}
	return states, 0, 0, api.OK
}

// Final returns the state after all plays.
func Final(l []api.Play) (State, int, int, api.Errno) {
	final := Start()
	at, broken, e := replay(l, func(_ int, t *turn) { final = t.next() })
	if e != api.OK {
		return State{}, at, broken, e
	}
	return final, 0, 0, api.OK
}

// Halves returns the halves of the innings of a game.
func Halves(l []api.Play) ([]Half, api.Errno) {
	var halves []Half
	_, _, e := replay(l, func(i int, t *turn) {
		last := len(halves) - 1
		if last < 0 || halves[last].Inning != t.state.Inning || halves[last].Side != t.state.Half {
			halves = append(halves, Half{Inning: t.state.Inning, Side: t.state.Half, From: i})
			last++
		}
		halves[last] = longer(halves[last], i, t)
	})
	if e != api.OK {
		return nil, e
	}
	return halves, api.OK
}

// Line returns the runs of both sides, inning by inning.
func Line(l []api.Play) ([][2]int, api.Errno) {
	halves, e := Halves(l)
	if e != api.OK || len(halves) == 0 {
		return nil, e
	}
	line := make([][2]int, halves[len(halves)-1].Inning)
	for _, h := range halves {
		line[h.Inning-1][h.Side] = h.Runs
	}
	return line, api.OK
}

// replay visits each play of a game in the state before it. It returns the index of the first play with an error, and the number of the rule that this one breaks.
func replay(l []api.Play, visit func(int, *turn)) (int, int, api.Errno) {
	if len(l) > api.MaxPlays {
		return 0, 0, api.ErrMany
	}
	s := Start()
	for i, p := range l {
		t, broken, e := accept(s, p)
		if e != api.OK {
			return i, broken, e
		}
		visit(i, t)
		s = t.next()
	}
	return 0, 0, api.OK
}

// longer returns a half with one more play, which has an index.
func longer(h Half, at int, t *turn) Half {
	h.To = at + 1
	h.Runs += len(t.runs())
	if !t.goesOn() {
		h.Turns++
	}
	h.Outs = t.outs
	h.Left = len(t.left())
	return h
}
