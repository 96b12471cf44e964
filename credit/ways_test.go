package credit_test

import (
	"strings"
	"testing"

	"dugout/api"
	"dugout/credit"
)

// way returns the way with a string: its side, its slot, the indices of the plays of its turn and its end, how it ends, and its steps, each with a play, a base and a base, separated by `,`.
func way(s string) credit.Way {
	w := strings.Split(s, " ")
	x := credit.Way{Side: number(w[0]), Slot: number(w[1]), Turn: number(w[2]), Last: number(w[3]), End: w[4]}
	for _, step := range w[5:] {
		n := strings.Split(step, ",")
		x.Steps = append(x.Steps, credit.Step{Play: number(n[0]), From: number(n[1]), To: number(n[2])})
	}
	return x
}

func TestWays(t *testing.T) {
	for _, row := range []struct {
		what  string
		plays string
		ways  []string
	}{
		{"no turn", "B -", nil},
		{"a turn that goes on", "B -;C -;F -", nil},
		{"an out at the plate", gone + "B -", []string{"0 1 0 0 out"}},
		{"one on base", first + "B -;C -", []string{"0 1 0 2 on 0,0,1"}},
		{"a home run", "X X 0-4b", []string{"0 1 0 0 run 0,0,4"}},
		{"a home run for two", second + "X X 2-4b 0-4b;B -", []string{"0 1 0 1 run 0,0,2 1,2,4", "0 2 1 1 run 1,0,4"}},
		{"the example", "X X 0-1b:6;C - 1-2p;X X 2-4b:82 0-2t:82", []string{"0 1 0 2 run 0,0,1 1,1,2 2,2,4", "0 2 2 2 on 2,0,2"}},
		{"a runner who is out", first + "C - 1x2g:26", []string{"0 1 0 1 out 0,0,1"}},
		{"a runner who is out later", first + "C - 1-2s;B -;- - 2x2g:14;B -", []string{"0 1 0 3 out 0,0,1 1,1,2"}},
		{"a batter who is out at second base", "X X 0x2g:84", []string{"0 1 0 0 out"}},
		{"a double play", first + "X X 1x2f:64 0x1f:643", []string{"0 1 0 1 out 0,0,1", "0 2 1 1 out"}},
		{"one who takes the base of another", first + "X X 1x2f:64 0-1b;C - 1-2s", []string{"0 1 0 1 out 0,0,1", "0 2 1 2 on 1,0,1 2,1,2"}},
		{"all go on", loaded + "X X 3-4b 2-3b 1-2b 0-1b", []string{"0 1 0 3 run 0,0,1 1,1,2 2,2,3 3,3,4", "0 2 1 3 on 1,0,1 2,1,2 3,2,3", "0 3 2 3 on 2,0,1 3,1,2", "0 4 3 3 on 3,0,1"}},
		{"one stays on third base", third + "X X 0-1b;X X 1-2b 0-1b", []string{"0 1 0 2 on 0,0,3", "0 2 1 2 on 1,0,1 2,1,2", "0 3 2 2 on 2,0,1"}},
		{"a third strike, safe", "CCS K 0-1p", []string{"0 1 0 0 on 0,0,1"}},
		{"one is left", gone + gone + first + gone + "B -", []string{"0 1 0 0 out", "0 2 1 1 out", "0 3 2 3 left 2,0,1", "0 4 3 3 out"}},
		{"the batter is left", gone + gone + first + "X X 1x3g:95 0-1b", []string{"0 1 0 0 out", "0 2 1 1 out", "0 3 2 3 out 2,0,1", "0 4 3 3 left 3,0,1"}},
		{"a run that does not count", gone + gone + third + "CCS K 3-4t 0x1k:2", []string{"0 1 0 0 out", "0 2 1 1 out", "0 3 2 3 left 2,0,3 3,3,4", "0 4 3 3 out"}},
		{"a run that counts with the third out", gone + gone + second + "X X 2-4b 0x2g:84", []string{"0 1 0 0 out", "0 2 1 1 out", "0 3 2 3 run 2,0,2 3,2,4", "0 4 3 3 out"}},
		{"a late run", gone + gone + second + "X X late 2-4b 0x2g:84", []string{"0 1 0 0 out", "0 2 1 1 out", "0 3 2 3 left 2,0,2 3,2,4", "0 4 3 3 out"}},
		{"both sides", gone + gone + gone + first + gone + "X X 1-2b 0-1b", []string{"0 1 0 0 out", "0 2 1 1 out", "0 3 2 2 out", "1 1 3 5 on 3,0,1 5,1,2", "1 2 4 4 out", "1 3 5 5 on 5,0,1"}},
		{"the same slots of another side", first + gone + gone + gone + first, []string{"0 1 0 3 left 0,0,1", "0 2 1 1 out", "0 3 2 2 out", "0 4 3 3 out", "1 1 4 4 on 4,0,1"}},
		{"a turn behind a pitch that got away", third + "B - 3-4p;BBB W 0-1a", []string{"0 1 0 1 run 0,0,3 1,3,4", "0 2 2 2 on 2,0,1"}},
		{"an out that ends the half in a turn", first + gone + gone + "C - 1x2g:26;B -", []string{"0 1 0 3 out 0,0,1", "0 2 1 1 out", "0 3 2 2 out"}},
		{"a slot that bats twice", strings.Repeat("X X 0-4b;", 9) + "X X 0-2b", []string{"0 1 0 0 run 0,0,4", "0 2 1 1 run 1,0,4", "0 3 2 2 run 2,0,4", "0 4 3 3 run 3,0,4", "0 5 4 4 run 4,0,4", "0 6 5 5 run 5,0,4", "0 7 6 6 run 6,0,4", "0 8 7 7 run 7,0,4", "0 9 8 8 run 8,0,4", "0 1 9 9 on 9,0,2"}},
	} {
		got, e := credit.Ways(acts(t, strings.Split(strings.TrimSuffix(row.plays, ";"), ";")...))
		want(t, "the error of Ways: "+row.what, e, api.OK)
		var ways []credit.Way
		for _, s := range row.ways {
			ways = append(ways, way(s))
		}
		want(t, "how many ways: "+row.what, len(got), len(ways))
		for i := range min(len(got), len(ways)) {
			want(t, "the steps of a way: "+row.what, got[i].Steps, ways[i].Steps)
			got[i].Steps, ways[i].Steps = nil, nil
			want(t, "a way: "+row.what, got[i], ways[i])
		}
	}
}

func TestWaysOfLongGames(t *testing.T) {
	l, e := credit.Ways(acts(t, strings.Split(strings.Repeat(gone, 51)+first+"X X 1-4b 0-1b", ";")...))
	want(t, "the error of Ways of a whole game", e, api.OK)
	want(t, "how many ways a whole game has", len(l), 53)
	want(t, "the last ways of a whole game", l[51:], []credit.Way{way("1 7 51 52 run 51,0,1 52,1,4"), way("1 8 52 52 left 52,0,1")})

	l, e = credit.Ways(crowd(t))
	want(t, "Ways of the greatest game", []any{len(l), e}, []any{api.MaxPlays, api.OK})
	for i, w := range l {
		end := "run"
		if i+3 >= api.MaxPlays {
			end = "on"
		}
		want(t, "how a way of the greatest game ends", w.End, end)
		want(t, "when a way of the greatest game ends", w.Last, min(i+3, api.MaxPlays-1))
	}
}

func TestWaysOfNoGame(t *testing.T) {
	for what, row := range wrongGames(t) {
		l, e := credit.Ways(row.plays)
		want(t, "Ways: "+what, []any{len(l), e}, []any{0, row.err})
	}
	l, e := credit.Ways(nil)
	want(t, "Ways of no plays", []any{len(l), e}, []any{0, api.OK})
}
