package lineup_test

import (
	"math/rand"
	"slices"
	"strconv"
	"testing"

	"dugout/api"
	"dugout/lineup"
)

// generator draws changes, always the same ones.
type generator struct {
	random *rand.Rand
	names  int
}

func newGenerator(seed int64) *generator {
	return &generator{random: rand.New(rand.NewSource(seed))}
}

// call draws the changes of a side before a play: some slots pass their positions around, and some of them get new players.
func (g *generator) call(l lineup.Lineup, side, play int) []lineup.Change {
	chosen := g.random.Perm(9)[:1+g.random.Intn(4)]
	slices.Sort(chosen)
	var call []lineup.Change
	for n, i := range chosen {
		c := at(play, side, i+1, l.Batters[i], l.Positions[chosen[(n+1)%len(chosen)]])
		if len(chosen) == 1 || g.random.Intn(2) == 0 {
			g.names++
			c.Player = "n" + strconv.Itoa(g.names)
		}
		call = append(call, c)
	}
	return call
}

// changes draws changes for the teams of the examples, before plays below n or at it.
func (g *generator) changes(n int) []lineup.Change {
	now := teams()
	var l []lineup.Change
	for play := range n + 1 {
		for side := range 2 {
			if g.random.Intn(4) > 0 || len(l) > api.MaxChanges-4 {
				continue
			}
			for _, c := range g.call(now[side], side, play) {
				now[side].Batters[c.Slot-1], now[side].Positions[c.Slot-1] = c.Player, c.Position
				l = append(l, c)
			}
		}
	}
	return l
}

const drawn = 20 // plays of a game that is drawn

func TestTeamsAtEachPlay(t *testing.T) {
	g := newGenerator(1)
	for range 60 {
		l := g.changes(drawn)
		want(t, "the changes", lineup.CheckChanges(teams(), l), api.OK)
		stints, _ := lineup.Stints(teams(), l, drawn)
		left := map[string]bool{}
		for play := range drawn {
			now, _ := lineup.At(teams(), l, play)
			want(t, "the teams at a play", lineup.CheckTeams(now), api.OK)
			checkStintsAt(t, stints, now, play)
			checkLeft(t, l, now, play, left)
		}
	}
}

// checkStintsAt expects one stint for each slot at a play, and the functions that look for players to agree with it.
func checkStintsAt(t *testing.T, stints []lineup.Stint, now lineup.Teams, play int) {
	t.Helper()
	n := 0
	for _, s := range stints {
		if s.From <= play && play < s.To {
			want(t, "the player of a stint", now[s.Side].Batters[s.Slot-1], s.Player)
			want(t, "the position of a stint", now[s.Side].Positions[s.Slot-1], s.Position)
			n++
		}
	}
	want(t, "the stints at a play", n, 18)
}

// checkLeft expects those who have left not to be among the teams at a play, nor to be fewer than before.
func checkLeft(t *testing.T, l []lineup.Change, now lineup.Teams, play int, left map[string]bool) {
	t.Helper()
	n := 0
	for side := range 2 {
		gone, e := lineup.Gone(teams(), l, play, side)
		want(t, "the error of Gone", e, api.OK)
		for _, player := range gone {
			left[player] = true
			want(t, "a player who has left", slices.Contains(now[side].Batters[:], player), false)
			_, e := lineup.SlotOf(teams(), l, play, side, player)
			want(t, "the slot of a player who has left", e, api.ErrUnknown)
		}
		n += len(gone)
	}
	want(t, "those who have left", n, len(left))
}

func TestStintsByDefinition(t *testing.T) {
	g := newGenerator(2)
	for range 60 {
		l := g.changes(drawn)
		n := g.random.Intn(drawn + 1)
		stints, _ := lineup.Stints(teams(), l, n)
		var naive []lineup.Stint
		for i := range 18 {
			side, slot := i/9, i%9
			for play := range n {
				now, _ := lineup.At(teams(), l, play)
				s := lineup.Stint{Side: side, Slot: slot + 1, Position: now[side].Positions[slot], Player: now[side].Batters[slot], From: play, To: play + 1}
				if play > 0 {
					last := &naive[len(naive)-1]
					if last.Player == s.Player && last.Position == s.Position {
						last.To++
						continue
					}
				}
				naive = append(naive, s)
			}
		}
		want(t, "the stints", stints, naive)
		for side := range 2 {
			pitchers, _ := lineup.Pitchers(teams(), l, n, side)
			end := 0
			for _, s := range pitchers {
				want(t, "the stint of a pitcher", []int{s.Side, s.Position, s.From}, []int{side, 1, end})
				want(t, "a stint that is listed", slices.Contains(stints, s), true)
				end = s.To
			}
			want(t, "the end of the pitchers", end, n)
		}
	}
}

func TestPlayersHaveOneSlot(t *testing.T) {
	g := newGenerator(3)
	for range 20 {
		l := g.changes(drawn)
		all, _ := lineup.Names(teams(), l)
		slots, sums := map[string]int{}, map[string]int{}
		for play := range drawn {
			for side := range 2 {
				for _, player := range all[side] {
					slot, e := lineup.SlotOf(teams(), l, play, side, player)
					if e != api.OK {
						continue
					}
					if slots[player] != 0 {
						want(t, "the slot of a player", slot, slots[player])
					}
					slots[player] = slot
					sums[player]++
				}
				for position := 1; position <= 9; position++ {
					who, _ := lineup.Who(teams(), l, play, side, position)
					want(t, "who plays is on his side", slices.Contains(all[side], who), true)
				}
			}
		}
		for _, player := range append(all[0], all[1]...) {
			played, e := lineup.Played(teams(), l, drawn, player)
			want(t, "the plays of a player", []any{played, e}, []any{sums[player], api.OK})
		}
	}
}

func TestSwapTwice(t *testing.T) {
	g := newGenerator(4)
	for range 60 {
		l := g.changes(drawn)
		x, m, e := lineup.Swap(teams(), l)
		want(t, "the error of Swap", e, api.OK)
		want(t, "what is exchanged", lineup.CheckChanges(x, m), api.OK)
		for play := range drawn {
			a, _ := lineup.At(teams(), l, play)
			b, _ := lineup.At(x, m, play)
			want(t, "the teams that are exchanged", b, lineup.Teams{a[1], a[0]})
		}
		y, n, e := lineup.Swap(x, m)
		want(t, "exchanged twice", []any{y, n, e}, []any{teams(), l, api.OK})
	}
}

func TestSplitLeadsToTheSameTeams(t *testing.T) {
	g := newGenerator(5)
	for range 30 {
		l := g.changes(drawn)
		for at := range drawn + 1 {
			x, rest, e := lineup.Split(teams(), l, at)
			want(t, "the error of Split", e, api.OK)
			want(t, "what is split", lineup.CheckChanges(x, rest), api.OK)
			for play := at; play <= drawn; play++ {
				a, _ := lineup.At(teams(), l, play)
				b, _ := lineup.At(x, rest, play-at)
				want(t, "the teams of the second part", b, a)
			}
		}
	}
}

func TestPrintedAndParsed(t *testing.T) {
	g := newGenerator(6)
	for range 100 {
		l := g.changes(drawn)
		s, e := lineup.Print(teams(), l)
		want(t, "the error of Print", e, api.OK)
		x, m, at, e := lineup.Parse(s)
		want(t, "printed and parsed", []any{x, at, e}, []any{teams(), 0, api.OK})
		want(t, "printed and parsed", m, l)
	}
}
