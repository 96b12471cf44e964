package earned_test

import (
	"slices"
	"strings"
	"testing"

	"dugout/api"
	"dugout/earned"
)

// rows returns the lists of integers with strings, separated by `|`.
func rows(text string) [][]int {
	if text == "" {
		return nil
	}
	var l [][]int
	for _, s := range strings.Split(text, "|") {
		l = append(l, numbers(s))
	}
	return l
}

// alike reports places that are not the expected ones; nil and empty lists are equal.
func alike(t *testing.T, what string, got, wanted [][]int) {
	t.Helper()
	if !slices.EqualFunc(got, wanted, slices.Equal[[]int]) {
		t.Errorf("%s: got %v, want %v", what, got, wanted)
	}
}

// retold is a reconstruction that is known.
type retold struct {
	what      string
	plays     string
	judgments string
	from      int
	places    string
	outs      []earned.Out
	third     int // -1 if there is none
}

// check compares a reconstruction with what is known of it.
func (r retold) check(t *testing.T) {
	t.Helper()
	h := inning(t, r.plays, r.judgments)
	places, e := earned.Places(h, r.from)
	want(t, "the error of Places: "+r.what, e, api.OK)
	alike(t, "Places: "+r.what, places, rows(r.places))
	outs, e := earned.Outs(h, r.from)
	want(t, "the error of Outs: "+r.what, e, api.OK)
	want(t, "Outs: "+r.what, outs, r.outs)
	third, e := earned.Third(h, r.from)
	if r.third < 0 {
		want(t, "Third: "+r.what, []any{third, e}, []any{0, api.ErrNone})
	} else {
		want(t, "Third: "+r.what, []any{third, e}, []any{r.third, api.OK})
	}
}

// Strings of plays: a pitch gets away from the fielder 2, by which the runner on first base, or all three runners, go on; three singles load the bases; a home run brings home the runner on first base, too.
const (
	away   = "B - 1-2p:2;"
	allGo  = "B - 3-4p:2 2-3p:2 1-2p:2;"
	loaded = one + "X X 1-2b 0-1b;X X 2-3b 1-2b 0-1b;"
	pair   = "X X 1-4b 0-4b;"
)

func TestReconstructions(t *testing.T) {
	for _, row := range []retold{
		{"no plays", "", "", 0, "", nil, -1},
		{"no turn", "B -;F -", "", 0, "|", nil, -1},
		{"behind all plays", one + gone, "", 2, "", nil, -1},
		{"behind the end of the half", gone + gone + gone, "", 3, "", nil, -1},
		{"without misplays", one + "X X 1-3b 0-2b;B - 3-4p 2-3p;" + gone, "", 0, "1|3 2|4 3|4 3 0", []earned.Out{{3, 3, true}}, -1},
		{"outs in fact", one + "X X 1x2f:64 0x1f:643;" + gone, "", 0, "1|0 0|0 0 0", []earned.Out{{1, 1, true}, {1, 2, true}, {2, 3, true}}, 2},
		{"outs before it", gone + gone + one + gone, "", 2, "-1 -1 1|-1 -1 1 0", []earned.Out{{3, 4, true}}, 3},
		{"who was there before it", gone + one + "X X 1-3b 0-2b;B -", "", 2, "-1 3 2|-1 3 2", nil, -1},
		{"who has come home before it", homer + one + "B -", "", 1, "-1 1|-1 1", nil, -1},
		{"a life", one + "X X 1-3b 0-2b", docLife, 0, "0|0 2", []earned.Out{{0, 1, false}}, -1},
		{"a life before it", one + "X X 1-3b 0-2b", docLife, 1, "3 2", nil, -1},
		{"an out who was out before", one + "C - 1x2g:26;" + one, docLife, 0, "0|0|0 1", []earned.Out{{0, 1, false}}, -1},
		{"an error", three + "B -", "0 0 error 1 8", 0, "1|1", nil, -1},
		{"an error before it", three + "B -", "0 0 error 1 8", 1, "3", nil, -1},
		{"an error in a steal", one + "C - 1-3s:25", "1 1 error 2 5", 0, "1|2", nil, -1},
		{"a passed ball", one + away + "B -", "1 1 passed 0 0", 0, "1|1|1", nil, -1},
		{"a passed ball that is supplied", one + "X X 1-2b 0-1b;B - 2-3p 1-2p", "2 1 passed 0 0", 0, "1|2 1|2 1", nil, -1},
		{"a wild pitch", one + away, "", 0, "1|2", nil, -1},
		{"a third strike that got away", "CCS K 0-1p:2;" + pair, "0 0 passed 0 0", 0, "0|0 4", []earned.Out{{0, 1, false}}, -1},
		{"a wild third strike", "CCS K 0-1p:2", "", 0, "1", nil, -1},
		{"he lags behind, and stays", one + away + "B - 2-3p;X X 3-4b 0-2b", "1 1 passed 0 0", 0, "1|1|1|3 2", nil, -1},
		{"he lags behind, and must move", one + away + "X X 2-3b 0-1b", "1 1 passed 0 0", 0, "1|1|2 1", nil, -1},
		{"he is where he was again", one + away + one + "X X 2-4b 1-2b 0-1b", "1 1 passed 0 0", 0, "1|1|2 1|4 2 1", nil, -1},
		{"he lags behind by two", three + "B -;X X 3-4b 0-1b;B - 1-2p", "0 0 error 1 8", 0, "1|1|2 1|3 2", nil, -1},
		{"he comes home later", three + "B - 3-4p;" + two + "X X 2-3b 0-1b;X X 3-4b 1-2b 0-1b", "0 0 error 1 8", 0, "1|1|3 2|4 3 1|4 4 2 1", nil, -1},
		{"he is put out", one + away + "- - 2x2g:14;" + one, "1 1 passed 0 0", 0, "1|1|0|0 1", []earned.Out{{2, 1, true}}, -1},
		{"a life where he lags behind", one + away + "X X 2-3b:5 0-1b", "1 1 passed 0 0;2 2 life 0 5", 0, "1|1|0 1", []earned.Out{{2, 1, false}}, -1},
		{"an error where he lags behind", one + away + "X X 2-4b:5 0-1b", "1 1 passed 0 0;2 2 error 3 5", 0, "1|1|2 1", nil, -1},
		{"all are pushed on", loaded + allGo + "BBB W 0-1a;B - 3-4p", "3 3 passed 0 0", 0, "1|2 1|3 2 1|3 2 1|4 3 2 1|4 4 2 1", nil, -1},
		{"all are pushed on in time", loaded + allGo + "BBB W 0-1a", "3 3 passed 0 0", 3, "3 2 1|4 3 2 1", nil, -1},
		{"nobody is pushed", loaded + allGo + "BBB W 0-1a", "3 3 passed 0 0", 4, "-1 3 2 1", nil, -1},
		{"two are pushed home", loaded + allGo + "X X 3-4b 2-4b 0-3b", "3 3 passed 0 0", 0, "1|2 1|3 2 1|3 2 1|4 4 4 3", nil, -1},
		{"all are pushed home", loaded + allGo + "X X 3-4b 2-4b 0-4b", "3 3 passed 0 0", 0, "1|2 1|3 2 1|3 2 1|4 4 4 4", nil, -1},
		{"pushed by a part of a way", two + "X X 2-4b:8 0-2b:8", "1 2 error 2 8", 0, "2|3 2", nil, -1},
		{"who is out pushes nobody", one + away + one, "1 1 passed 0 0;2 0 life 0 6", 0, "1|1|1 0", []earned.Out{{2, 2, false}}, -1},
		{"a gap", three + two, "", 0, "3|3 2", nil, -1},
		{"a life of a runner", one + "X X 1-2b:64 0-1b", "1 1 life 0 4", 0, "1|0 1", []earned.Out{{1, 1, false}}, -1},
		{"outs in the order of the moves", one + "X X 1-2b:4 0-1b:43", "1 1 life 0 4;1 0 life 0 3", 0, "1|0 0", []earned.Out{{1, 1, false}, {1, 2, false}}, -1},
		{"outs of both kinds", one + "X X 1-3b:4 0x1f:43", "1 1 life 0 4", 0, "1|0 0", []earned.Out{{1, 1, false}, {1, 2, true}}, -1},
		{"an appeal", one + "X X 1x1d:83 0x1c:8", "", 0, "1|0 0", []earned.Out{{1, 1, true}, {1, 2, true}}, -1},
		{"the tenth runner", strings.Repeat(homer, 8) + one + "X X 1-2b:6 0-1b", "9 1 life 0 6", 8, "-1 -1 -1 -1 -1 -1 -1 -1 1|-1 -1 -1 -1 -1 -1 -1 -1 0 1", []earned.Out{{9, 9, false}}, -1},
	} {
		row.check(t)
	}
}

func TestEndsOfReconstructions(t *testing.T) {
	outs := func(last ...earned.Out) []earned.Out {
		return append([]earned.Out{{0, 1, true}, {1, 2, true}}, last...)
	}
	for _, row := range []retold{
		{"nothing follows", gone + gone + one + pair, "2 0 life 0 6", 0, "0|0 0|0 0 0", outs(earned.Out{2, 3, false}), 2},
		{"something follows from a later play", gone + gone + one + pair, "2 0 life 0 6", 3, "-1 -1 4 4", nil, -1},
		{"the third out from a later play", gone + gone + one + "X X 1-2b 0-1b:6;B -", "3 0 life 0 6", 2, "-1 -1 1|-1 -1 2 0", []earned.Out{{3, 4, false}}, 3},
		{"nobody comes home with the third out", gone + gone + three + "X X 3-4b 0-1b:6", "3 0 life 0 6", 0, "0|0 0|0 0 3|0 0 3 0", outs(earned.Out{3, 4, false}), 3},
		{"two stop at third base", gone + gone + loaded + "X X 3-4b:6 2-4b 1-4b 0-2b", "5 3 life 0 6", 0, "0|0 0|0 0 1|0 0 2 1|0 0 3 2 1|0 0 0 3 3 2", outs(earned.Out{5, 3, false}), 5},
		{"the batter stops at third base", gone + gone + one + "X X 1-4b:6 0-4b", "3 1 life 0 6", 0, "0|0 0|0 0 1|0 0 0 3", outs(earned.Out{3, 3, false}), 3},
		{"who is pushed stops at third base", gone + gone + three + "B - 3-4p:2;" + one + "X X 1-4b:6 0-3b", "3 3 passed 0 0;5 1 life 0 6", 0, "0|0 0|0 0 3|0 0 3|0 0 3 1|0 0 3 0 3", outs(earned.Out{5, 4, false}), 5},
		{"a run of an earlier play", gone + gone + three + "B - 3-4p:2;" + one + "X X 1-3b 0x2g:84", "3 3 passed 0 0", 0, "0|0 0|0 0 3|0 0 3|0 0 3 1|0 0 3 3 0", outs(earned.Out{5, 5, true}), 5},
		{"the run counts in fact", gone + gone + two + "X X 2-4b 0x2g:84", "", 0, "0|0 0|0 0 2|0 0 4 0", outs(earned.Out{3, 4, true}), 3},
		{"the run counts from a later play", gone + gone + two + "X X 2-4b 0x2g:84", "", 3, "-1 -1 4 0", []earned.Out{{3, 4, true}}, 3},
		{"the run is late", gone + gone + two + "X X late 2-4b 0x2g:84", "", 0, "0|0 0|0 0 2|0 0 3 0", outs(earned.Out{3, 4, true}), 3},
		{"the out is closing", gone + gone + three + "X X 3-4b 0x1f:63", "", 0, "0|0 0|0 0 3|0 0 3 0", outs(earned.Out{3, 4, true}), 3},
		{"more outs before than in fact", one + gone + "X X 1-3b 0-2b;X X 3-4b 2-4b 0x2g:84", docLife, 0, "0|0 0|0 0 2|0 0 3 0", []earned.Out{{0, 1, false}, {1, 2, true}, {3, 4, true}}, 3},
		{"as many outs before, of another play", one + gone + "C - 1x2g:26;" + two + "X X 2-4b 0x2g:84", docLife, 0, "0|0 0|0 0|0 0 2|0 0 4 0", []earned.Out{{0, 1, false}, {1, 2, true}, {4, 4, true}}, 4},
		{"an out more than in fact", gone + two + "X X 2-3b 0-1b;X X 3-4b 1-3b:85 0x2g:84", "3 1 life 0 8", 0, "0|0 2|0 3 1|0 3 0 0", []earned.Out{{0, 1, true}, {3, 3, false}, {3, 4, true}}, 3},
		{"four outs", gone + one + "X X 1-2b 0-1b;X X 2-3b 1x2f:64 0x1f:643", "1 0 life 0 6", 0, "0|0 0|0 0 1|0 0 0 0", []earned.Out{{0, 1, true}, {1, 2, false}, {3, 3, true}, {3, 4, true}}, 3},
		{"who came home before stays", three + "X X 3-4b 0-1b;" + gone + gone + "X X 1-2b 0-1b:6;" + gone, "4 0 life 0 6", 0, "3|4 1|4 1 0|4 1 0 0|4 2 0 0 0", []earned.Out{{2, 3, true}, {3, 4, true}, {4, 5, false}}, 4},
		{"who lags behind stays", gone + gone + two + "B - 2-3p:2;X X 3-4b 0x2g:84", "3 2 passed 0 0", 0, "0|0 0|0 0 2|0 0 2|0 0 2 0", outs(earned.Out{4, 4, true}), 4},
	} {
		row.check(t)
	}
}

func TestReconstructionsWrong(t *testing.T) {
	for _, from := range []int{-1, 6, 7, 1 << 62, -1 << 62} {
		places, e := earned.Places(example(t), from)
		want(t, "Places", []any{len(places), e}, []any{0, api.ErrRange})
		outs, e := earned.Outs(example(t), from)
		want(t, "Outs", []any{len(outs), e}, []any{0, api.ErrRange})
		third, e := earned.Third(example(t), from)
		want(t, "Third", []any{third, e}, []any{0, api.ErrRange})
	}
	for _, from := range []int{-1, 1} {
		_, e := earned.Places(earned.Half{}, from)
		want(t, "Places of no plays", e, api.ErrRange)
	}
}
