package rule_test

import (
	"slices"
	"testing"

	"dugout/api"
	"dugout/rule"
)

// follows expects a play to lead from a state to a state.
func follows(t *testing.T, from, play, to string) {
	t.Helper()
	next, n, e := rule.Apply(state(t, from), act(t, play))
	want(t, from+", "+play+", the error", e, api.OK)
	want(t, from+", "+play+", the rule", n, 0)
	want(t, from+", "+play, shown(t, next), to)
}

func TestApply(t *testing.T) {
	for _, x := range [][3]string{
		{"1t 0 0-0 000 11 0:0 on", "BX X 0-1b", "1t 0 0-0 100 21 0:0 on"},
		{"1t 0 0-0 100 21 0:0 on", "C -", "1t 0 0-1 100 21 0:0 on"},
		{"1t 0 0-1 100 21 0:0 on", "X X 1x2f:64 0x1f:43", "1t 2 0-0 000 31 0:0 on"},
		{"1t 0 0-0 100 21 0:0 on", "BC -", "1t 0 1-1 100 21 0:0 on"},
		{"1t 1 3-2 000 21 0:0 on", "FFF -", "1t 1 3-2 000 21 0:0 on"},
		{"1t 0 3-0 210 31 0:0 on", "B W 2-3a 1-2a 0-1a", "1t 0 0-0 321 41 0:0 on"},
		{"3b 2 1-2 001 52 0:1 on", "S K 3-4p 0-1p", "3b 2 0-0 200 53 0:2 on"},
		{"1t 0 1-2 100 21 0:0 on", "S K 1-2s 0x1k:2", "1t 1 0-0 010 31 0:0 on"},
		{"1t 0 1-1 100 21 0:0 on", "- - 1x1g:13", "1t 1 1-1 000 21 0:0 on"},
		{"1t 0 1-1 100 21 0:0 on", "- - 1-4t:13", "1t 0 1-1 000 21 1:0 on"},
		{"1t 0 1-1 000 91 0:0 on", "X X 0-3b", "1t 0 0-0 009 11 0:0 on"},
		{"1b 0 1-1 000 19 0:0 on", "X X 0-2b", "1b 0 0-0 090 11 0:0 on"},
		{"2b 0 0-0 321 14 7:3 on", "X X 3-4b 2-4b 1-4b 0-4b", "2b 0 0-0 000 15 7:7 on"},
		{"1t 0 0-0 321 41 0:0 on", "X X 3x4f:2 2-3b 1-2b 0-1b", "1t 1 0-0 432 51 0:0 on"},
		{"1t 0 0-0 321 41 0:0 on", "X X 0x1c:8", "1t 1 0-0 321 51 0:0 on"},
		{"1t 1 0-0 321 51 0:0 on", "X X 3-4b 2x2d:84 0x1c:8", "1b 0 0-0 000 61 0:0 on"},
		{"1t 0 2-1 210 31 0:0 on", "B - 2-3k 1-2k", "1t 0 3-1 021 31 0:0 on"},
		{"1t 0 0-0 210 31 0:0 on", "X Y 0x1y:4", "1t 1 0-0 210 41 0:0 on"},
		{"1t 0 2-2 000 31 0:0 on", "H H 0-1a", "1t 0 0-0 300 41 0:0 on"},
		{"1t 0 2-2 000 31 0:0 on", "- I 0-1a", "1t 0 0-0 300 41 0:0 on"},
		{"1t 0 2-2 000 31 0:0 on", "- N 0x1n:2", "1t 1 0-0 000 41 0:0 on"},
	} {
		follows(t, x[0], x[1], x[2])
	}
}

func TestEndOfAHalf(t *testing.T) {
	for _, x := range [][3]string{
		{"1t 2 0-0 000 41 0:0 on", "X X 0x1c:8", "1b 0 0-0 000 51 0:0 on"},
		{"1b 2 0-0 000 14 0:3 on", "X X 0x1c:8", "2t 0 0-0 000 15 0:3 on"},
		{"1t 2 3-2 100 21 0:0 on", "- - 1x1g:13", "1b 0 0-0 000 21 0:0 on"},
		{"1t 0 0-0 210 31 0:0 on", "X X 2x3f:5 1x2f:54 0x1f:43", "1b 0 0-0 000 41 0:0 on"},
		{"8b 2 0-0 000 11 0:5 on", "X X 0x1c:8", "9t 0 0-0 000 12 0:5 on"},
		{"9t 2 0-0 000 11 0:0 on", "X X 0x1c:8", "9b 0 0-0 000 21 0:0 on"},
		{"9t 2 0-0 000 11 1:0 on", "X X 0x1c:8", "9b 0 0-0 000 21 1:0 on"},
		{"9t 2 0-0 000 11 0:1 on", "X X 0x1c:8", "9t 0 0-0 000 21 0:1 over"},
		{"9b 2 0-0 000 11 2:2 on", "X X 0x1c:8", "10t 0 0-0 000 12 2:2 on"},
		{"9b 2 0-0 000 11 3:2 on", "X X 0x1c:8", "9b 0 0-0 000 12 3:2 over"},
		{"29b 2 0-0 000 11 2:2 on", "X X 0x1c:8", "30t 0 0-0 000 12 2:2 on"},
		{"30t 2 0-0 000 11 2:2 on", "X X 0x1c:8", "30b 0 0-0 000 21 2:2 on"},
		{"30b 2 0-0 000 11 2:2 on", "X X 0x1c:8", "30b 0 0-0 000 12 2:2 over"},
		{"30t 2 0-0 000 11 2:3 on", "X X 0x1c:8", "30t 0 0-0 000 21 2:3 over"},
	} {
		follows(t, x[0], x[1], x[2])
	}
}

func TestDecidedGame(t *testing.T) {
	for _, x := range [][3]string{
		{"9b 1 0-0 001 52 3:3 on", "X X 3-4b 0-1b", "9b 0 0-0 000 53 3:4 over"},
		{"9b 0 0-0 000 52 3:3 on", "X X 0-4b", "9b 0 0-0 000 53 3:4 over"},
		{"9b 1 3-2 001 52 3:3 on", "B - 3-4p", ""},
		{"9b 1 2-2 001 52 3:3 on", "B - 3-4p", "9b 0 0-0 000 52 3:4 over"},
		{"9b 1 0-0 001 52 4:3 on", "X X 3-4b 0-1b", "9b 1 0-0 200 53 4:4 on"},
		{"8b 1 0-0 001 52 3:3 on", "X X 3-4b 0-1b", "8b 1 0-0 200 53 3:4 on"},
		{"9t 1 0-0 001 25 3:3 on", "X X 3-4b 0-1b", "9t 1 0-0 200 35 4:3 on"},
		{"9b 2 0-0 001 52 3:3 on", "X X 3-4b 0x2g:84", "9b 0 0-0 000 53 3:4 over"},
		{"9b 2 0-0 001 52 3:3 on", "X X 3-4b 0x1g:43", "10t 0 0-0 000 53 3:3 on"},
		{"12b 0 0-0 321 54 3:3 on", "X X 3-4b 2-4b 1-4b 0-4b", "12b 0 0-0 000 55 3:7 over"},
	} {
		if x[2] == "" {
			refused(t, x[1], state(t, x[0]), act(t, x[1]), 2, api.ErrRule)
			continue
		}
		follows(t, x[0], x[1], x[2])
	}
}

// After the play of each row these runs count, this is its end, and these are left on base.
func TestScoredLeftAndEnds(t *testing.T) {
	for _, x := range []struct {
		from, play   string
		scored, left []int
		ends         int
	}{
		{"1t 0 0-0 000 11 0:0 on", "- -", nil, nil, 0},
		{"1t 0 0-0 100 21 0:0 on", "X X 0x1c:8", nil, nil, 0},
		{"1t 0 0-0 321 41 0:0 on", "X X 3-4b 2-4b 1-4b 0-4b", []int{1, 2, 3, 4}, nil, 0},
		{"1t 0 0-0 321 41 0:0 on", "X X 3-4b 1x2f:64 0-1b", []int{1}, nil, 0},
		{"1t 0 0-0 321 41 0:0 on", "X X 3-4b 2-3b 1x2f:64 0x1f:43", []int{1}, nil, 0},
		{"1t 2 0-0 321 41 0:0 on", "X X 0x1c:8", nil, []int{1, 2, 3}, 1},
		{"1t 2 0-0 321 41 0:0 on", "X X 3-4b 0x1c:8", nil, []int{1, 2, 3}, 1},
		{"1t 2 0-0 321 41 0:0 on", "X X 3-4b 2-3b 1-2b 0x1f:63", nil, []int{1, 2, 3}, 1},
		{"1t 2 0-0 321 41 0:0 on", "X X 3-4b 2-3b 1-2b 0x1g:3", nil, []int{1, 2, 3}, 1},
		{"1t 2 0-0 321 41 0:0 on", "X X 3-4b 2-4b 1-3b 0x2g:84", []int{1, 2}, []int{3}, 1},
		{"1t 2 0-0 321 41 0:0 on", "X X late 3-4b 2-4b 1x3g:85 0-2t", nil, []int{1, 2, 4}, 1},
		{"1t 2 0-0 321 41 0:0 on", "X X 3-4b 2-4b 1x3g:85 0-2t", []int{1, 2}, []int{4}, 1},
		{"1t 2 0-0 321 41 0:0 on", "X X 3-4b 2-3b 1x2f:64 0-1b", nil, []int{1, 2, 4}, 1},
		{"1t 2 0-0 321 41 0:0 on", "CCS K 3-4p 2-4p 1-3p 0x1k:23", nil, []int{1, 2, 3}, 1},
		{"1t 2 0-0 321 41 0:0 on", "CCS K 3-4t 2-3t 1-2t 0x1f:23", nil, []int{1, 2, 3}, 1},
		{"1t 2 0-0 321 41 0:0 on", "- N 0x1n:2", nil, []int{1, 2, 3}, 1},
		{"1t 1 0-0 321 41 0:0 on", "X Y 3-4t 2x3g:5 0x1y:4", nil, []int{1, 3}, 1},
		{"1t 1 0-0 321 41 0:0 on", "X X 3-4t 2x2d:4 0x1c:4", nil, []int{1, 3}, 1},
		{"1t 1 0-0 321 41 0:0 on", "X X 3-4t 2x3g:5 1x3g:5 0-1b", []int{1}, []int{4}, 1},
		{"1t 1 0-0 321 41 0:0 on", "X X 3-4t 2x3g:5 1x2f:54 0-1b", nil, []int{1, 4}, 1},
		{"1t 2 0-0 321 41 0:0 on", "- - 3-4s 2-3s 1x2g:24", []int{1}, []int{2}, 1},
		{"1t 2 0-0 321 41 0:0 on", "- - late 3-4s 2-3s 1x2g:24", nil, []int{1, 2}, 1},
		{"1t 2 0-0 321 41 0:0 on", "- - late 3-4s 2-3s 1x2n:24", nil, []int{1, 2}, 1},
		{"1t 2 0-0 321 41 0:0 on", "- - 3-4s 2-3s 1x2n:24", []int{1}, []int{2}, 1},
		{"1t 2 0-0 100 21 0:0 on", "- - 1x1g:13", nil, nil, 1},
		{"3b 2 1-2 001 52 0:1 on", "S K 3-4t 0x1k:2", nil, []int{1}, 1},
		{"9b 1 0-0 001 52 3:3 on", "X X 3-4b 0-1b", []int{1}, []int{2}, 2},
		{"9b 0 0-0 321 54 3:3 on", "X X 3-4b 2-3b 1-2b 0-1b", []int{1}, []int{2, 3, 4}, 2},
		{"9b 0 0-0 021 53 3:3 on", "- - 3-4s 2-3s", []int{1}, []int{2}, 2},
		{"9b 2 0-0 021 53 4:3 on", "X X 0x1c:8", nil, []int{1, 2}, 2},
		{"9t 2 0-0 021 35 3:4 on", "X X 0x1c:8", nil, []int{1, 2}, 2},
		{"9b 2 0-0 021 53 3:3 on", "X X 0x1c:8", nil, []int{1, 2}, 1},
	} {
		what := x.from + ", " + x.play
		s, p := state(t, x.from), act(t, x.play)
		scored, e := rule.Scored(s, p)
		want(t, what+", scored", scored, x.scored)
		want(t, what+", scored", e, api.OK)
		left, e := rule.Left(s, p)
		want(t, what+", left", left, x.left)
		want(t, what+", left", e, api.OK)
		ends, e := rule.Ends(s, p)
		want(t, what+", ends", ends, x.ends)
		want(t, what+", ends", e, api.OK)
		next, _, e := rule.Apply(s, p)
		want(t, what+", applied", e, api.OK)
		want(t, what+", the score", next.Score[s.Half]-s.Score[s.Half], len(x.scored))
		want(t, what+", the other score", next.Score[1-s.Half], s.Score[1-s.Half])
	}
}

func TestErrorsOfPlays(t *testing.T) {
	over := state(t, "9b 0 0-0 000 53 3:4 over")
	refused(t, "over", over, api.Play{}, 0, api.ErrOver)
	refused(t, "no play, over", over, api.Play{Event: "Q"}, 0, api.ErrKind)
	refused(t, "no play, breaking a rule", rule.Start(), api.Play{Pitches: "CCCC", Moves: []api.Move{{From: 1, To: 2, How: "z"}}}, 0, api.ErrKind)
	refused(t, "no order of moves", rule.Start(), api.Play{Moves: []api.Move{{From: 1, To: 2, How: "s"}, {From: 2, To: 3, How: "s"}}}, 0, api.ErrOrder)
	refused(t, "a rule, over", over, act(t, "X -"), 0, api.ErrOver)
}

func TestLargeScores(t *testing.T) {
	loaded := state(t, "1t 0 0-0 321 41 9997:0 on")
	refused(t, "10001 runs", loaded, act(t, "X X 3-4b 2-4b 1-4b 0-4b"), 0, api.ErrLarge)
	refused(t, "10000 runs", loaded, act(t, "X X 3-4b 2-4b 1-4b 0-3b"), 0, api.ErrLarge)
	refused(t, "a rule before 10001 runs", loaded, act(t, "X X 3-4b 2-4b 1-4s 0-4b"), 8, api.ErrRule)
	follows(t, "1t 0 0-0 321 41 9997:0 on", "X X 3-4b 2-4b 1-3b 0-2b", "1t 0 0-0 043 51 9999:0 on")
	follows(t, "1t 2 0-0 321 41 9999:0 on", "X X 3-4b 0x1f:63", "1b 0 0-0 000 51 9999:0 on")
	refused(t, "10000 runs of the home side", state(t, "2b 0 0-0 001 12 0:9999 on"), act(t, "X X 3-4b 0-1b"), 0, api.ErrLarge)
	refused(t, "a deciding run too many", state(t, "9b 0 0-0 001 12 9999:9999 on"), act(t, "X X 3-4b 0-1b"), 0, api.ErrLarge)
	follows(t, "2b 0 0-0 000 12 9999:0 on", "X X 0-4b", "2b 0 0-0 000 13 9999:1 on")
}

// Arguments are left as they are, and results share no memory.
func TestMemoryOfPlays(t *testing.T) {
	s, p := state(t, "1t 0 0-0 321 41 0:0 on"), act(t, "X X 3-4b 2-3b 1x2f:64 0-1b")
	before := slices.Clone(p.Moves)
	a, _ := rule.Scored(s, p)
	b, _ := rule.Scored(s, p)
	a[0] = 77
	want(t, "runs behind a change", b, []int{1})
	r, _ := rule.Runners(s)
	r[0] = 77
	want(t, "the state", shown(t, s), "1t 0 0-0 321 41 0:0 on")
	rule.Apply(s, p)
	want(t, "the moves of the argument", p.Moves, before)
	want(t, "the state behind a play", shown(t, s), "1t 0 0-0 321 41 0:0 on")
}
