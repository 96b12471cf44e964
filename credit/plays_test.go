package credit_test

import (
	"math"
	"slices"
	"strconv"
	"strings"
	"testing"

	"dugout/api"
	"dugout/credit"
	"dugout/judge"
)

func TestKinds(t *testing.T) {
	want(t, "Kinds", credit.Kinds(), kindList)
	changed := credit.Kinds()
	changed[0] = "walk"
	want(t, "Kinds, when a result was changed", credit.Kinds(), kindList)
}

// How some games begin: those that are named leave runners, or outs, behind.
const (
	first  = "X X 0-1b;"
	second = "X X 0-2b;"
	third  = "X X 0-3b;"
	both   = first + "X X 1-2b 0-1b;"
	loaded = both + "X X 2-3b 1-2b 0-1b;"
	gone   = "CCS K 0x1k:2;"
)

// scenario is a game, whose plays are separated by semicolons, with judgments about its last play, told without its index, and what this play gives.
type scenario struct {
	what      string
	plays     string
	judgments []string
	credits   []string
}

func (s scenario) check(t *testing.T) {
	t.Helper()
	plays := acts(t, strings.Split(s.plays, ";")...)
	last := len(plays) - 1
	var l []api.Judgment
	for _, text := range s.judgments {
		l = append(l, ruling(strconv.Itoa(last)+" "+text))
	}
	got, e := credit.Credits(plays, l, last)
	want(t, "the error of Credits: "+s.what, e, api.OK)
	want(t, "Credits: "+s.what, shown(got), s.credits)
	for _, c := range got {
		want(t, "the play of a credit: "+s.what, c.Play, last)
	}
}

func TestCreditsOfTurns(t *testing.T) {
	for _, row := range []scenario{
		{"a ball", "B -", nil, nil},
		{"no pitches", "- -", nil, nil},
		{"a walk", "BBBB W 0-1a", nil, []string{"0 turn 1 0 1", "0 w 1 0 1", "1 wa 0 1 1"}},
		{"a walk with a run", loaded + "BBBB W 3-4a 2-3a 1-2a 0-1a", nil, []string{"0 turn 4 0 1", "0 r 1 0 1", "0 rbi 4 0 1", "0 w 4 0 1", "1 wa 0 1 1", "1 ra 0 1 1"}},
		{"a batter who is hit", "H H 0-1a", nil, []string{"0 turn 1 0 1", "0 hp 1 0 1", "1 hb 0 1 1"}},
		{"a batter who is hit with a run", loaded + "H H 3-4a 2-3a 1-2a 0-1a", nil, []string{"0 turn 4 0 1", "0 r 1 0 1", "0 rbi 4 0 1", "0 hp 4 0 1", "1 hb 0 1 1", "1 ra 0 1 1"}},
		{"an interference", "- I 0-1a", nil, []string{"0 turn 1 0 1", "0 ci 1 0 1"}},
		{"an interference with a run", loaded + "- I 3-4a 2-3a 1-2a 0-1a", nil, []string{"0 turn 4 0 1", "0 r 1 0 1", "0 rbi 4 0 1", "0 ci 4 0 1", "1 ra 0 1 1"}},
		{"a third strike", "CCS K 0x1k:2", nil, []string{"0 turn 1 0 1", "0 ab 1 0 1", "0 k 1 0 1", "1 po 0 2 1", "1 out 0 1 1", "1 ka 0 1 1"}},
		{"a third strike, thrown", "CCS K 0x1f:23", nil, []string{"0 turn 1 0 1", "0 ab 1 0 1", "0 k 1 0 1", "1 po 0 3 1", "1 a 0 2 1", "1 out 0 1 1", "1 ka 0 1 1"}},
		{"a third strike, tagged", "CCS K 0x2g:2", nil, []string{"0 turn 1 0 1", "0 ab 1 0 1", "0 k 1 0 1", "1 po 0 2 1", "1 out 0 1 1", "1 ka 0 1 1"}},
		{"a third strike that got away", "CCS K 0-1p", nil, []string{"0 turn 1 0 1", "0 ab 1 0 1", "0 k 1 0 1", "1 ka 0 1 1", "1 wp 0 1 1"}},
		{"a third strike that was passed", "CCS K 0-1p", []string{"0 passed 0 0"}, []string{"0 turn 1 0 1", "0 ab 1 0 1", "0 k 1 0 1", "1 pb 0 2 1", "1 ka 0 1 1"}},
		{"a third strike, safe on a throw", "CCS K 0-1t", nil, []string{"0 turn 1 0 1", "0 ab 1 0 1", "0 k 1 0 1", "1 ka 0 1 1"}},
		{"a batter who interferes", "- N 0x1n:2", nil, []string{"0 turn 1 0 1", "0 ab 1 0 1", "1 po 0 2 1", "1 out 0 1 1"}},
		{"an infield fly", both + "X Y 0x1y:6", nil, []string{"0 turn 3 0 1", "0 ab 3 0 1", "1 po 0 6 1", "1 out 0 1 1"}},
		{"an infield fly with a run", loaded + "X Y 3-4b 0x1y:6", nil, []string{"0 turn 4 0 1", "0 ab 4 0 1", "0 r 1 0 1", "0 rbi 4 0 1", "1 po 0 6 1", "1 out 0 1 1", "1 ra 0 1 1"}},
		{"a batter on an obstruction", "X X 0-1o", nil, []string{"0 turn 1 0 1", "0 ab 1 0 1"}},
		{"side 1 bats", gone + gone + gone + "X X 0-1b", nil, []string{"1 turn 1 0 1", "1 ab 1 0 1", "1 h 1 0 1", "0 ha 0 1 1"}},
	} {
		row.check(t)
	}
}

func TestCreditsOfHits(t *testing.T) {
	for _, row := range []scenario{
		{"one base", "X X 0-1b", nil, []string{"0 turn 1 0 1", "0 ab 1 0 1", "0 h 1 0 1", "1 ha 0 1 1"}},
		{"two bases", "X X 0-2b", nil, []string{"0 turn 1 0 1", "0 ab 1 0 1", "0 h 1 0 1", "0 d 1 0 1", "1 ha 0 1 1"}},
		{"three bases", "X X 0-3b", nil, []string{"0 turn 1 0 1", "0 ab 1 0 1", "0 h 1 0 1", "0 t 1 0 1", "1 ha 0 1 1"}},
		{"four bases", "X X 0-4b", nil, []string{"0 turn 1 0 1", "0 ab 1 0 1", "0 h 1 0 1", "0 hr 1 0 1", "0 r 1 0 1", "0 rbi 1 0 1", "1 ha 0 1 1", "1 ra 0 1 1"}},
		{"four bases for four", loaded + "X X 3-4b 2-4b 1-4b 0-4b", nil, []string{"0 turn 4 0 1", "0 ab 4 0 1", "0 h 4 0 1", "0 hr 4 0 1", "0 r 1 0 1", "0 r 2 0 1", "0 r 3 0 1", "0 r 4 0 1", "0 rbi 4 0 4", "1 ha 0 1 1", "1 ra 0 1 4"}},
		{"fewer bases than he reached", "X X 0-2t", []string{"0 hit 1 0"}, []string{"0 turn 1 0 1", "0 ab 1 0 1", "0 h 1 0 1", "1 ha 0 1 1"}},
		{"a base by an error", "X X 0-4t:89", []string{"0 hit 3 0", "0 error 3 9"}, []string{"0 turn 1 0 1", "0 ab 1 0 1", "0 h 1 0 1", "0 t 1 0 1", "0 r 1 0 1", "1 e 0 9 1", "1 ha 0 1 1", "1 ra 0 1 1"}},
		{"two bases by an error", "X X 0-4b:8", []string{"0 error 2 8"}, []string{"0 turn 1 0 1", "0 ab 1 0 1", "0 h 1 0 1", "0 d 1 0 1", "0 r 1 0 1", "1 e 0 8 1", "1 ha 0 1 1", "1 ra 0 1 1"}},
		{"a life", "X X 0-1b:6", []string{"0 life 0 6"}, []string{"0 turn 1 0 1", "0 ab 1 0 1", "1 e 0 6 1"}},
		{"a choice", first + "X X 1x2f:64 0-1b", []string{"0 choice 0 0"}, []string{"0 turn 2 0 1", "0 ab 2 0 1", "1 po 0 4 1", "1 a 0 6 1", "1 out 0 1 1"}},
		{"a sacrifice and an out", first + "X X 1-2t:13 0x1f:13", []string{"0 sacrifice 0 0"}, []string{"0 turn 2 0 1", "0 sac 2 0 1", "1 po 0 3 1", "1 a 0 1 1", "1 out 0 1 1"}},
		{"the same without a sacrifice", first + "X X 1-2t:13 0x1f:13", nil, []string{"0 turn 2 0 1", "0 ab 2 0 1", "1 po 0 3 1", "1 a 0 1 1", "1 out 0 1 1"}},
		{"a sacrifice and a run", third + "X X 3-4b 0x1c:8", []string{"0 sacrifice 0 0"}, []string{"0 turn 2 0 1", "0 r 1 0 1", "0 rbi 2 0 1", "0 sac 2 0 1", "1 po 0 8 1", "1 out 0 1 1", "1 ra 0 1 1"}},
		{"a sacrifice and all safe", first + "X X 1-2b 0-1b", []string{"0 sacrifice 0 0"}, []string{"0 turn 2 0 1", "0 sac 2 0 1"}},
		{"a sacrifice and a life", first + "X X 1-2b 0-1b:3", []string{"0 life 0 3", "0 sacrifice 0 0"}, []string{"0 turn 2 0 1", "0 sac 2 0 1", "1 e 0 3 1"}},
	} {
		row.check(t)
	}
}

func TestCreditsOfRuns(t *testing.T) {
	for _, row := range []scenario{
		{"on a throw", third + "X X 3-4t 0x1c:8", nil, []string{"0 turn 2 0 1", "0 ab 2 0 1", "0 r 1 0 1", "1 po 0 8 1", "1 out 0 1 1", "1 ra 0 1 1"}},
		{"on an obstruction", third + "X X 3-4o 0-1b", nil, []string{"0 turn 2 0 1", "0 ab 2 0 1", "0 h 2 0 1", "0 r 1 0 1", "1 ha 0 1 1", "1 ra 0 1 1"}},
		{"on a third strike", third + "CCS K 3-4p 0x1k:2", nil, []string{"0 turn 2 0 1", "0 ab 2 0 1", "0 r 1 0 1", "0 k 2 0 1", "1 po 0 2 1", "1 out 0 1 1", "1 ka 0 1 1", "1 ra 0 1 1", "1 wp 0 1 1"}},
		{"stolen", third + "C - 3-4s", nil, []string{"0 r 1 0 1", "0 sb 1 0 1", "1 ra 0 1 1"}},
		{"with an error about the run", second + "X X 2-4b:8 0-1b", []string{"2 error 3 8"}, []string{"0 turn 2 0 1", "0 ab 2 0 1", "0 h 2 0 1", "0 r 1 0 1", "1 e 0 8 1", "1 ha 0 1 1", "1 ra 0 1 1"}},
		{"with an error about the batter", second + "X X 2-4b:8 0-2b:8", []string{"0 error 1 8"}, []string{"0 turn 2 0 1", "0 ab 2 0 1", "0 h 2 0 1", "0 r 1 0 1", "0 rbi 2 0 1", "1 e 0 8 1", "1 ha 0 1 1", "1 ra 0 1 1"}},
		{"with a life of the batter", third + "X X 3-4b 0-1b:6", []string{"0 life 0 6"}, []string{"0 turn 2 0 1", "0 ab 2 0 1", "0 r 1 0 1", "0 rbi 2 0 1", "1 e 0 6 1", "1 ra 0 1 1"}},
		{"with a life of the runner", third + "X X 3-4b:62 0-1b", []string{"3 life 0 2"}, []string{"0 turn 2 0 1", "0 ab 2 0 1", "0 h 2 0 1", "0 r 1 0 1", "0 rbi 2 0 1", "1 e 0 2 1", "1 ha 0 1 1", "1 ra 0 1 1"}},
		{"with one out by force", loaded + "X X 3-4b 2-3b 1x2f:64 0-1b", []string{"0 choice 0 0"}, []string{"0 turn 4 0 1", "0 ab 4 0 1", "0 r 1 0 1", "0 rbi 4 0 1", "1 po 0 4 1", "1 a 0 6 1", "1 out 0 1 1", "1 ra 0 1 1"}},
		{"with two outs by force", loaded + "X X 3-4b 2-3b 1x2f:64 0x1f:643", nil, []string{"0 turn 4 0 1", "0 ab 4 0 1", "0 r 1 0 1", "1 po 0 3 1", "1 po 0 4 1", "1 a 0 4 1", "1 a 0 6 2", "1 dp 0 3 1", "1 dp 0 4 1", "1 dp 0 6 1", "1 out 0 1 2", "1 ra 0 1 1"}},
		{"with an out by force and a tag", loaded + "X X 3-4b 2-3b 1x2g:4 0x1f:43", nil, []string{"0 turn 4 0 1", "0 ab 4 0 1", "0 r 1 0 1", "0 rbi 4 0 1", "1 po 0 3 1", "1 po 0 4 1", "1 a 0 4 1", "1 dp 0 3 1", "1 dp 0 4 1", "1 out 0 1 2", "1 ra 0 1 1"}},
		{"that does not count by a third strike", gone + gone + third + "CCS K 3-4t 0x1k:2", nil, []string{"0 turn 4 0 1", "0 ab 4 0 1", "0 k 4 0 1", "0 lob 3 0 1", "1 po 0 2 1", "1 out 0 1 1", "1 ka 0 1 1"}},
		{"that does not count as it is late", gone + gone + second + "X X late 2-4b 0x2g:84", nil, []string{"0 turn 4 0 1", "0 ab 4 0 1", "0 lob 3 0 1", "1 po 0 4 1", "1 a 0 8 1", "1 out 0 1 1"}},
		{"that counts as it is not late", gone + gone + second + "X X 2-4b 0x2g:84", nil, []string{"0 turn 4 0 1", "0 ab 4 0 1", "0 r 3 0 1", "0 rbi 4 0 1", "1 po 0 4 1", "1 a 0 8 1", "1 out 0 1 1", "1 ra 0 1 1"}},
		{"that ends the game", strings.Repeat(gone, 51) + first + "X X 1-4b 0-1b", nil, []string{"1 turn 8 0 1", "1 ab 8 0 1", "1 h 8 0 1", "1 r 7 0 1", "1 rbi 8 0 1", "1 lob 8 0 1", "0 ha 0 1 1", "0 ra 0 1 1"}},
	} {
		row.check(t)
	}
}

func TestCreditsOfRunners(t *testing.T) {
	for _, row := range []scenario{
		{"a steal", first + "C - 1-2s", nil, []string{"0 sb 1 0 1"}},
		{"two steals", both + "C - 2-3s 1-2s", nil, []string{"0 sb 1 0 1", "0 sb 2 0 1"}},
		{"a steal and an idle one", both + "C - 2-3s 1-2s", []string{"1 idle 0 0"}, []string{"0 sb 1 0 1"}},
		{"a life instead of a steal", first + "C - 1-2s:24", []string{"1 life 0 4"}, []string{"1 e 0 4 1"}},
		{"a steal with an error", first + "C - 1-3s:28", []string{"1 error 2 2"}, []string{"0 sb 1 0 1", "1 e 0 2 1"}},
		{"a steal on a walk", third + "BBBB W 3-4s 0-1a", nil, []string{"0 turn 2 0 1", "0 r 1 0 1", "0 w 2 0 1", "0 sb 1 0 1", "1 wa 0 1 1", "1 ra 0 1 1"}},
		{"caught stealing", first + "C - 1x2g:26", nil, []string{"0 cs 1 0 1", "1 po 0 6 1", "1 a 0 2 1", "1 out 0 1 1"}},
		{"caught two bases on", first + "C - 1x3g:25", nil, []string{"0 cs 1 0 1", "1 po 0 5 1", "1 a 0 2 1", "1 out 0 1 1"}},
		{"caught at his own base", first + "- - 1x1g:13", nil, []string{"1 po 0 3 1", "1 a 0 1 1", "1 out 0 1 1"}},
		{"caught on a third strike", third + "CCS K 3x4g:2 0x1k:2", nil, []string{"0 turn 2 0 1", "0 ab 2 0 1", "0 k 2 0 1", "0 cs 1 0 1", "1 po 0 2 2", "1 dp 0 2 1", "1 out 0 1 2", "1 ka 0 1 1"}},
		{"caught on a walk", third + "BBBB W 3x4g:2 0-1a", nil, []string{"0 turn 2 0 1", "0 w 2 0 1", "0 cs 1 0 1", "1 po 0 2 1", "1 out 0 1 1", "1 wa 0 1 1"}},
		{"tagged behind a batted ball", first + "X X 1x3g:95 0-1b", nil, []string{"0 turn 2 0 1", "0 ab 2 0 1", "0 h 2 0 1", "1 po 0 5 1", "1 a 0 9 1", "1 out 0 1 1", "1 ha 0 1 1"}},
		{"tagged behind an infield fly", both + "X Y 2x3g:65 0x1y:6", nil, []string{"0 turn 3 0 1", "0 ab 3 0 1", "1 po 0 5 1", "1 po 0 6 1", "1 a 0 6 1", "1 dp 0 5 1", "1 dp 0 6 1", "1 out 0 1 2"}},
		{"out by interference", first + "C - 1x2n:4", nil, []string{"1 po 0 4 1", "1 out 0 1 1"}},
		{"a balk", both + "- - 2-3k 1-2k", nil, []string{"1 bk 0 1 1"}},
		{"a balk with a run", third + "- - 3-4k", nil, []string{"0 r 1 0 1", "1 ra 0 1 1", "1 bk 0 1 1"}},
		{"a wild pitch for two", both + "B - 2-3p 1-2p", nil, []string{"1 wp 0 1 1"}},
		{"a passed ball for two", both + "B - 2-3p 1-2p", []string{"2 passed 0 0", "1 passed 0 0"}, []string{"1 pb 0 2 1"}},
		{"a passed ball for another one, too", both + "B - 2-3p 1-2p", []string{"1 passed 0 0"}, []string{"1 pb 0 2 1"}},
		{"an error behind a wild pitch", first + "B - 1-3p:2", []string{"1 error 2 2"}, []string{"1 e 0 2 1", "1 wp 0 1 1"}},
		{"one is left", gone + gone + second + "CCS K 0x1k:2", nil, []string{"0 turn 4 0 1", "0 ab 4 0 1", "0 k 4 0 1", "0 lob 3 0 1", "1 po 0 2 1", "1 out 0 1 1", "1 ka 0 1 1"}},
		{"the batter is left, too", gone + gone + first + "X X 1x3g:95 0-1b", nil, []string{"0 turn 4 0 1", "0 ab 4 0 1", "0 h 4 0 1", "0 lob 4 0 1", "1 po 0 5 1", "1 a 0 9 1", "1 out 0 1 1", "1 ha 0 1 1"}},
		{"two are left, by their slots", gone + gone + both + "CCS K 0x1k:2", nil, []string{"0 turn 5 0 1", "0 ab 5 0 1", "0 k 5 0 1", "0 lob 3 0 1", "0 lob 4 0 1", "1 po 0 2 1", "1 out 0 1 1", "1 ka 0 1 1"}},
		{"nobody is left before the third out", gone + second + "CCS K 0x1k:2", nil, []string{"0 turn 3 0 1", "0 ab 3 0 1", "0 k 3 0 1", "1 po 0 2 1", "1 out 0 1 1", "1 ka 0 1 1"}},
	} {
		row.check(t)
	}
}

func TestCreditsOfFielders(t *testing.T) {
	for _, row := range []scenario{
		{"touches of a safe move", "X X 0-1b:63", nil, []string{"0 turn 1 0 1", "0 ab 1 0 1", "0 h 1 0 1", "1 ha 0 1 1"}},
		{"the last toucher, twice", "X X 0x1f:13431", nil, []string{"0 turn 1 0 1", "0 ab 1 0 1", "1 po 0 1 1", "1 a 0 3 1", "1 a 0 4 1", "1 out 0 1 1"}},
		{"another toucher, twice", "X X 0x1f:64613", nil, []string{"0 turn 1 0 1", "0 ab 1 0 1", "1 po 0 3 1", "1 a 0 1 1", "1 a 0 4 1", "1 a 0 6 1", "1 out 0 1 1"}},
		{"the outfield", "X X 0x1c:9", nil, []string{"0 turn 1 0 1", "0 ab 1 0 1", "1 po 0 9 1", "1 out 0 1 1"}},
		{"two errors of one", first + "X X 1-4b:8 0-2b:8", []string{"1 error 3 8", "0 error 1 8"}, []string{"0 turn 2 0 1", "0 ab 2 0 1", "0 h 2 0 1", "0 r 1 0 1", "1 e 0 8 2", "1 ha 0 1 1", "1 ra 0 1 1"}},
		{"errors of two", first + "X X 1-3b:95 0-1b:3", []string{"1 error 2 9", "0 life 0 3"}, []string{"0 turn 2 0 1", "0 ab 2 0 1", "1 e 0 3 1", "1 e 0 9 1"}},
		{"a double play of one", first + "X X 1x1d:3 0x1c:3", nil, []string{"0 turn 2 0 1", "0 ab 2 0 1", "1 po 0 3 2", "1 dp 0 3 1", "1 out 0 1 2"}},
		{"a double play of two", third + "X X 3x3d:85 0x1c:8", nil, []string{"0 turn 2 0 1", "0 ab 2 0 1", "1 po 0 5 1", "1 po 0 8 1", "1 a 0 8 1", "1 dp 0 5 1", "1 dp 0 8 1", "1 out 0 1 2"}},
		{"a triple play", both + "X X 2x2d:64 1x1d:643 0x1c:6", nil, []string{"0 turn 3 0 1", "0 ab 3 0 1", "1 po 0 3 1", "1 po 0 4 1", "1 po 0 6 1", "1 a 0 4 1", "1 a 0 6 2", "1 dp 0 3 1", "1 dp 0 4 1", "1 dp 0 6 1", "1 out 0 1 3"}},
		{"a double play with an error", both + "X X 2-4b:9 1x2f:64 0x1f:643", []string{"2 error 3 9"}, []string{"0 turn 3 0 1", "0 ab 3 0 1", "0 r 1 0 1", "1 po 0 3 1", "1 po 0 4 1", "1 a 0 4 1", "1 a 0 6 2", "1 e 0 9 1", "1 dp 0 3 1", "1 dp 0 4 1", "1 dp 0 6 1", "1 out 0 1 2", "1 ra 0 1 1"}},
		{"side 0 in the field", gone + gone + gone + "X X 0x1f:63", nil, []string{"1 turn 1 0 1", "1 ab 1 0 1", "0 po 0 3 1", "0 a 0 6 1", "0 out 0 1 1"}},
	} {
		row.check(t)
	}
}

func TestAll(t *testing.T) {
	l, e := credit.All(example(t), nil)
	want(t, "All", []any{l, e}, []any{gifts(
		"0 0 turn 1 0 1", "0 0 ab 1 0 1", "0 0 h 1 0 1", "0 1 ha 0 1 1",
		"1 1 wp 0 1 1",
		"2 0 turn 2 0 1", "2 0 ab 2 0 1", "2 0 h 2 0 1", "2 0 d 2 0 1", "2 0 r 1 0 1", "2 0 rbi 2 0 1", "2 1 ha 0 1 1", "2 1 ra 0 1 1",
	), api.OK})
	l, e = credit.All(example(t), rulings("0 0 life 0 6", "1 1 passed 0 0", "2 0 error 1 2"))
	want(t, "All with judgments", []any{l, e}, []any{gifts(
		"0 0 turn 1 0 1", "0 0 ab 1 0 1", "0 1 e 0 6 1",
		"1 1 pb 0 2 1",
		"2 0 turn 2 0 1", "2 0 ab 2 0 1", "2 0 h 2 0 1", "2 0 r 1 0 1", "2 0 rbi 2 0 1", "2 1 e 0 2 1", "2 1 ha 0 1 1", "2 1 ra 0 1 1",
	), api.OK})
	l, e = credit.All(nil, nil)
	want(t, "All of no plays", []any{len(l), e}, []any{0, api.OK})
	l, e = credit.All(acts(t, "B -", "C -"), nil)
	want(t, "All of plays without credits", []any{len(l), e}, []any{0, api.OK})
}

func TestDouble(t *testing.T) {
	for _, row := range []struct {
		plays     string
		positions []int
	}{
		{"B -", nil},
		{"X X 0-1b:63", nil},
		{"X X 0x1f:63", nil},
		{first + "X X 1x2f:64 0x1f:643", []int{3, 4, 6}},
		{first + "X X 1x1d:3 0x1c:3", []int{3}},
		{third + "X X 3x3d:85 0x1c:8", []int{5, 8}},
		{third + "CCS K 3x4g:2 0x1k:2", []int{2}},
		{both + "X X 2x2d:64 1x1d:643 0x1c:6", []int{3, 4, 6}},
		{both + "X X 2-4b:987 1x2f:12 0x1f:123", []int{1, 2, 3}},
		{both + "- - 2x3g:15 1x2g:14", []int{1, 4, 5}},
		{first + "X X 1x2g:123456789 0x1f:987654321", []int{1, 2, 3, 4, 5, 6, 7, 8, 9}},
	} {
		plays := acts(t, strings.Split(row.plays, ";")...)
		l, e := credit.Double(plays, len(plays)-1)
		want(t, "Double: "+row.plays, []any{len(l), e}, []any{len(row.positions), api.OK})
		want(t, "Double: "+row.plays, l, row.positions)
	}
	l, e := credit.Double(acts(t, "X X 0-1b", "X X 1x2f:64 0x1f:643", "B -"), 1)
	want(t, "Double of a play that is not the last one", []any{l, e}, []any{[]int{3, 4, 6}, api.OK})
}

func TestCreditsWrong(t *testing.T) {
	expect := func(what string, plays []api.Play, l []api.Judgment, at int, err api.Errno) {
		t.Helper()
		got, e := credit.Credits(plays, l, at)
		want(t, "Credits: "+what, []any{len(got), e}, []any{0, err})
	}
	for what, row := range wrongGames(t) {
		expect(what, row.plays, rulings("9 9 walk 0 0"), -1, row.err)
		got, e := credit.All(row.plays, rulings("9 9 walk 0 0"))
		want(t, "All: "+what, []any{len(got), e}, []any{0, row.err})
		positions, e := credit.Double(row.plays, -1)
		want(t, "Double: "+what, []any{len(positions), e}, []any{0, row.err})
	}
	for what, row := range wrongLists() {
		expect(what, example(t), row.l, 3, row.err)
		got, e := credit.All(example(t), row.l)
		want(t, "All: "+what, []any{len(got), e}, []any{0, row.err})
	}
	for _, at := range []int{-1, 3, 256, math.MaxInt, math.MinInt} {
		expect("no play", example(t), nil, at, api.ErrUnknown)
		positions, e := credit.Double(example(t), at)
		want(t, "Double: no play", []any{len(positions), e}, []any{0, api.ErrUnknown})
	}
	expect("no plays", nil, nil, 0, api.ErrUnknown)
	positions, e := credit.Double(nil, 0)
	want(t, "Double: no plays", []any{len(positions), e}, []any{0, api.ErrUnknown})
}

// A list of judgments may be one whose complete list has too many; this is told after the errors of all arguments.
func TestCreditsAtTheLimit(t *testing.T) {
	g := crowd(t)
	full, more := blamed(762, 6), blamed(762, 7)
	complete, _ := judge.Complete(g, full)
	want(t, "a full list", len(complete), api.MaxJudgments)
	_, e := judge.CheckJudgments(g, more)
	want(t, "a list whose complete list has too many", e, api.OK)

	l, e := credit.Credits(g, full, 255)
	want(t, "Credits", []any{shown(l), e}, []any{[]string{"0 turn 4 0 1", "0 ab 4 0 1", "0 h 4 0 1", "0 r 1 0 1", "1 e 0 1 3", "1 ha 0 1 1", "1 ra 0 1 1"}, api.OK})
	l, e = credit.All(g, full)
	want(t, "All", []any{len(l) > 1000, e}, []any{true, api.OK})
	l, e = credit.Credits(g, more, 255)
	want(t, "Credits with too many", []any{len(l), e}, []any{0, api.ErrMany})
	l, e = credit.Credits(g, more, 256)
	want(t, "Credits of no play with too many", []any{len(l), e}, []any{0, api.ErrUnknown})
	l, e = credit.All(g, more)
	want(t, "All with too many", []any{len(l), e}, []any{0, api.ErrMany})
}

func TestCheckCredits(t *testing.T) {
	right := gift("0 0 turn 1 0 1")
	wrong := credit.Credit{Play: -1, Side: 2, Kind: "walk", Slot: 10, Position: 10}
	for what, row := range map[string]struct {
		l   []credit.Credit
		err api.Errno
	}{
		"nothing":                      {nil, api.OK},
		"one":                          {gifts("0 0 turn 1 0 1"), api.OK},
		"in any order, one twice":      {gifts("7 1 bk 0 1 1", "0 0 turn 9 0 1", "0 0 turn 9 0 1", "3 0 ab 1 0 2"), api.OK},
		"the greatest play":            {gifts("255 0 turn 1 0 1"), api.OK},
		"a negative play":              {gifts("-1 0 turn 1 0 1"), api.ErrRange},
		"a great play":                 {gifts("256 0 turn 1 0 1"), api.ErrRange},
		"the least side":               {gifts("0 -1 turn 1 0 1"), api.ErrSide},
		"a great side":                 {gifts("0 2 turn 1 0 1"), api.ErrSide},
		"no kind":                      {gifts("0 0 walk 1 0 1"), api.ErrKind},
		"an empty kind":                {[]credit.Credit{{Slot: 1, N: 1}}, api.ErrKind},
		"a kind in capitals":           {gifts("0 0 H 1 0 1"), api.ErrKind},
		"no number":                    {gifts("0 0 turn 1 0 0"), api.ErrRange},
		"a negative number":            {gifts("0 0 turn 1 0 -1"), api.ErrRange},
		"the greatest number":          {gifts("0 0 turn 1 0 999999999"), api.OK},
		"a great number":               {gifts("0 0 turn 1 0 1000000000"), api.ErrRange},
		"a play and a side":            {gifts("256 2 turn 1 0 1"), api.ErrRange},
		"a side and a kind":            {gifts("0 2 walk 1 0 1"), api.ErrSide},
		"a kind, a slot, a number":     {gifts("0 0 walk 0 0 0"), api.ErrKind},
		"a slot and a number":          {gifts("0 0 turn 0 0 0"), api.ErrShape},
		"the first wrong one":          {gifts("0 0 turn 1 0 1", "0 0 turn 0 0 1", "0 0 walk 1 0 1"), api.ErrShape},
		"the greatest list":            {slices.Repeat([]credit.Credit{right}, credit.MaxCredits), api.OK},
		"the last one of the list":     {append(slices.Repeat([]credit.Credit{right}, credit.MaxCredits-1), wrong), api.ErrRange},
		"one more":                     {slices.Repeat([]credit.Credit{right}, credit.MaxCredits+1), api.ErrMany},
		"too many that are no credits": {slices.Repeat([]credit.Credit{wrong}, credit.MaxCredits+1), api.ErrMany},
	} {
		want(t, "CheckCredits: "+what, credit.CheckCredits(row.l), row.err)
	}
}

// belongs reports whether a slot and a position belong to a kind.
func belongs(kind string, slot, position int) bool {
	switch i := slices.Index(kindList, kind); {
	case i < 16:
		return slot >= 1 && slot <= 9 && position == 0
	case i < 20:
		return slot == 0 && position >= 1 && position <= 9
	case i == 20:
		return slot == 0 && position == 2
	}
	return slot == 0 && position == 1
}

func TestShapes(t *testing.T) {
	numbers := []int{math.MinInt, -1, 0, 1, 2, 3, 4, 5, 6, 7, 8, 9, 10, math.MaxInt}
	n := 0
	for _, kind := range kindList {
		for _, slot := range numbers {
			for _, position := range numbers {
				wanted := api.ErrShape
				if belongs(kind, slot, position) {
					wanted = api.OK
					n++
				}
				c := credit.Credit{Play: 3, Side: 1, Kind: kind, Slot: slot, Position: position, N: 1}
				want(t, "CheckCredits of "+kind, credit.CheckCredits([]credit.Credit{c}), wanted)
				x := credit.Total{Side: 1, Kind: kind, Slot: slot, Position: position, N: 1}
				want(t, "CheckTotals of "+kind, credit.CheckTotals([]credit.Total{x}), wanted)
			}
		}
	}
	want(t, "how many belong to a kind, for both sides", 2*n, 378)
}
