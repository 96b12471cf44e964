package judge_test

import (
	"reflect"
	"slices"
	"strconv"
	"strings"
	"testing"

	"dugout/api"
	"dugout/judge"
	"dugout/play"
)

// want reports a result that is not the expected one; nil and empty lists are equal.
func want(t *testing.T, what string, got, wanted any) {
	t.Helper()
	a, b := reflect.ValueOf(got), reflect.ValueOf(wanted)
	if a.Kind() == reflect.Slice && b.Kind() == reflect.Slice && a.Len() == 0 && b.Len() == 0 {
		return
	}
	if !reflect.DeepEqual(got, wanted) {
		t.Errorf("%s: got %v, want %v", what, got, wanted)
	}
}

// acts returns the plays with strings that are known to have their form.
func acts(t *testing.T, list ...string) []api.Play {
	t.Helper()
	var l []api.Play
	for _, s := range list {
		p, _, e := play.Parse(s)
		if e != api.OK {
			t.Fatalf("play.Parse(%q): error %d", s, e)
		}
		l = append(l, p)
	}
	return l
}

// printed returns the strings of moves.
func printed(t *testing.T, l []api.Move) []string {
	t.Helper()
	var texts []string
	for _, m := range l {
		text, e := play.Print(api.Play{Moves: []api.Move{m}})
		want(t, "the error of play.Print", e, api.OK)
		texts = append(texts, strings.TrimPrefix(text, "- - "))
	}
	return texts
}

// example returns the game G of the document's examples.
func example(t *testing.T) []api.Play {
	t.Helper()
	return acts(t, "X X 0-1b:6", "C - 1-2p", "X X 2-4b:82 0-2t:82")
}

// kindList are the kinds, in the order of their numbers.
var kindList = []string{"hit", "life", "error", "choice", "wild", "passed", "steal", "idle", "sacrifice"}

// ruling returns the judgment with a string; its integers may be negative, and its kind may be none.
func ruling(s string) api.Judgment {
	words := strings.Split(s, " ")
	number := func(at int) int {
		n, err := strconv.Atoi(words[at])
		if err != nil || len(words) != 5 {
			panic("no judgment: " + s)
		}
		return n
	}
	return api.Judgment{Play: number(0), From: number(1), Kind: words[2], Base: number(3), Fielder: number(4), Rule: 1 + slices.Index(kindList, words[2])}
}

// rulings returns the judgments with strings.
func rulings(list ...string) []api.Judgment {
	var l []api.Judgment
	for _, s := range list {
		l = append(l, ruling(s))
	}
	return l
}

// shown returns the strings of judgments.
func shown(l []api.Judgment) []string {
	var texts []string
	for _, j := range l {
		texts = append(texts, strings.Join([]string{strconv.Itoa(j.Play), strconv.Itoa(j.From), j.Kind, strconv.Itoa(j.Base), strconv.Itoa(j.Fielder)}, " "))
	}
	return texts
}

// withRule returns a judgment with another number.
func withRule(s string, n int) api.Judgment {
	j := ruling(s)
	j.Rule = n
	return j
}

// same reports the first difference between a list of judgments, which may be long, and the expected one.
func same(t *testing.T, what string, got, wanted []api.Judgment) {
	t.Helper()
	for i := range min(len(got), len(wanted)) {
		if got[i] != wanted[i] {
			t.Errorf("%s: got %v at %d, want %v", what, got[i], i, wanted[i])
			return
		}
	}
	want(t, what+", how many", len(got), len(wanted))
}

// crowd returns a game of 256 plays; from play 3 on all bases are occupied, and everybody goes on by a base.
func crowd(t *testing.T) []api.Play {
	t.Helper()
	l := acts(t, "X X 0-1b:1", "X X 1-2b:1 0-1b:1", "X X 2-3b:1 1-2b:1 0-1b:1")
	full := acts(t, "X X 3-4b:1 2-3b:1 1-2b:1 0-1b:1")[0]
	for len(l) < api.MaxPlays {
		l = append(l, full)
	}
	return l
}

// blamed returns judgments of the crowd: some errors for moves of runners, at most 762, and some sacrifices, at most 255, in order.
func blamed(t *testing.T, errors, sacrifices int) []api.Judgment {
	t.Helper()
	var l []api.Judgment
	for at := 1; at < api.MaxPlays; at++ {
		for from := min(at, 3); from > 0 && errors > 0; from-- {
			n := strconv.Itoa(from)
			l = append(l, ruling(strconv.Itoa(at)+" "+n+" error "+n+" 1"))
			errors--
		}
		if sacrifices > 0 {
			l = append(l, ruling(strconv.Itoa(at)+" 0 sacrifice 0 0"))
			sacrifices--
		}
	}
	return l
}

// wrongGames returns lists of plays that are no games, with their errors.
func wrongGames(t *testing.T) map[string]struct {
	plays []api.Play
	err   api.Errno
} {
	t.Helper()
	type row = struct {
		plays []api.Play
		err   api.Errno
	}
	return map[string]row{
		"a rule is broken":      {example(t)[1:], api.ErrRule},
		"a form is wrong":       {append(example(t), api.Play{Pitches: "Q"}), api.ErrPitch},
		"too many plays":        {slices.Repeat(acts(t, "F -"), api.MaxPlays+1), api.ErrMany},
		"a move has no touches": {append(example(t), api.Play{Pitches: "X", Event: "X", Moves: []api.Move{{To: 1, Out: true, How: "f"}}}), api.ErrTouch},
	}
}

func TestExamples(t *testing.T) {
	g := example(t)
	l, e := judge.Complete(g, nil)
	want(t, "the complete list of the empty list", []any{shown(l), e}, []any{[]string{"0 0 hit 1 0", "1 1 wild 0 0", "2 0 hit 2 0"}, api.OK})
	text, e := judge.Print(l)
	want(t, "its string", []any{text, e}, []any{"0 0 hit 1 0\n1 1 wild 0 0\n2 0 hit 2 0\n", api.OK})
	for at, cleans := range [][]judge.Clean{{{From: 0, To: 1}}, {{From: 1, To: 2}}, {{From: 2, To: 4}, {From: 0, To: 2}}} {
		got, e := judge.Cleans(g, nil, at)
		want(t, "the clean moves of G", []any{got, e}, []any{cleans, api.OK})
	}
	misplays, e := judge.Misplays(g, nil)
	want(t, "the misplays of G", []any{len(misplays), e}, []any{0, api.OK})

	l, _ = judge.Set(g, nil, ruling("0 0 life 0 6"))
	l, _ = judge.Complete(g, l)
	want(t, "the complete list with a life", shown(l), []string{"0 0 life 0 6", "1 1 wild 0 0", "2 0 hit 2 0"})
	cleans, _ := judge.Cleans(g, rulings("0 0 life 0 6"), 0)
	want(t, "the clean move of a life", cleans, []judge.Clean{{Out: true}})
	errors, _ := judge.Errors(g, rulings("0 0 life 0 6"), 1)
	want(t, "the errors of a life", errors, [10]int{0: 1, 6: 1})

	for s, wanted := range map[string]api.Errno{"0 0 hit 2 0": api.ErrJudge, "0 0 error 1 6": api.ErrJudge, "1 1 steal 0 0": api.ErrJudge, "2 1 hit 1 0": api.ErrNone, "2 0 sacrifice 0 0": api.OK} {
		want(t, "Fits "+s, judge.Fits(g, ruling(s)), wanted)
	}

	cleans, _ = judge.Cleans(g, rulings("1 1 passed 0 0"), 1)
	want(t, "the clean move of a passed ball", cleans, []judge.Clean{{From: 1, To: 1}})
	l, _ = judge.Set(g, rulings("1 1 passed 0 0"), ruling("1 1 wild 0 0"))
	want(t, "a wild pitch instead", shown(l), []string{"1 1 wild 0 0"})
	at, e := judge.CheckJudgments(g, rulings("1 1 wild 0 0", "1 1 passed 0 0"))
	want(t, "both together", []any{at, e}, []any{1, api.ErrConflict})

	l, _ = judge.Missing(g, rulings("2 0 error 1 2"))
	want(t, "a hit with the base of an error", shown(l), []string{"0 0 hit 1 0", "1 1 wild 0 0", "2 0 hit 1 0"})
	cleans, _ = judge.Cleans(g, rulings("2 0 error 1 2"), 2)
	want(t, "the clean move of an error", cleans, []judge.Clean{{From: 2, To: 4}, {From: 0, To: 1}})
	at, e = judge.CheckJudgments(g, rulings("2 0 hit 2 0", "2 0 error 1 2"))
	want(t, "a hit beyond an error", []any{at, e}, []any{1, api.ErrConflict})
	l, _ = judge.Missing(g, rulings("2 0 sacrifice 0 0"))
	want(t, "a choice beside a sacrifice", shown(l), []string{"0 0 hit 1 0", "1 1 wild 0 0", "2 0 choice 0 0"})
}
