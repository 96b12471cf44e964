package earned_test

import (
	"reflect"
	"slices"
	"strconv"
	"strings"
	"testing"

	"dugout/api"
	"dugout/earned"
	"dugout/judge"
	"dugout/play"
)

// want reports a result that is not the expected one; nil and empty lists are equal.
func want(t *testing.T, what string, got, wanted any) {
	t.Helper()
	a, b := reflect.ValueOf(got), reflect.ValueOf(wanted)
	if a.Kind() == reflect.Slice && b.Kind() == reflect.Slice && a.Len() == 0 && b.Len() == 0 {
		return
	}
	if !reflect.DeepEqual(got, wanted) {
		t.Errorf("%s: got %v, want %v", what, got, wanted)
	}
}

// acts returns the plays with strings that are known to have their form, separated by `;`, also behind the last one.
func acts(t *testing.T, text string) []api.Play {
	t.Helper()
	var l []api.Play
	for _, s := range words(text, ";") {
		p, _, e := play.Parse(s)
		if e != api.OK {
			t.Fatalf("play.Parse(%q): error %d", s, e)
		}
		l = append(l, p)
	}
	return l
}

// words returns the parts of a text that are not empty.
func words(text, separator string) []string {
	return slices.DeleteFunc(strings.Split(text, separator), func(s string) bool { return s == "" })
}

// rulingList are the kinds of judgments, in the order of their numbers.
var rulingList = []string{"hit", "life", "error", "choice", "wild", "passed", "steal", "idle", "sacrifice"}

// numbers returns the integers with strings that are separated by a blank.
func numbers(text string) []int {
	var l []int
	for _, s := range words(text, " ") {
		n, err := strconv.Atoi(s)
		if err != nil {
			panic("no integer: " + s)
		}
		l = append(l, n)
	}
	return l
}

// number returns the integer with a string.
func number(s string) int {
	return numbers(s)[0]
}

// rulings returns the judgments with strings, separated by `;`; integers may be negative, and kinds may be none.
func rulings(text string) []api.Judgment {
	var l []api.Judgment
	for _, s := range words(text, ";") {
		w := strings.Split(s, " ")
		l = append(l, api.Judgment{Play: number(w[0]), From: number(w[1]), Kind: w[2], Base: number(w[3]), Fielder: number(w[4]), Rule: 1 + slices.Index(rulingList, w[2])})
	}
	return l
}

// inning returns a half with plays and judgments, and the plays before which another pitcher comes in.
func inning(t *testing.T, plays, judgments string, relief ...int) earned.Half {
	t.Helper()
	return earned.Half{Plays: acts(t, plays), Judgments: rulings(judgments), Relief: relief}
}

// Strings of plays: the batter is out, comes to a base, or comes to it because the fielder 6 or 8 did not put him out.
const (
	gone    = "X X 0x1c:8;"
	one     = "X X 0-1b:6;"
	two     = "X X 0-2b:8;"
	three   = "X X 0-3b:8;"
	homer   = "X X 0-4b;"
	doc     = one + "X X 1-2b 0-1b;X X 2x3f:5 1-2b 0-1t:5;X X 2-4b 1-2b 0-1b;X X 2-4b 1-3b 0-2b"
	docLife = "0 0 life 0 6;"
)

// example returns the half H of the document's examples.
func example(t *testing.T) earned.Half {
	t.Helper()
	return inning(t, doc, docLife+"2 0 choice 0 0", 3)
}

// long returns a half of 256 plays; from play 3 on all bases are occupied, and everybody goes on by a base. Its judgments are some errors for the moves of runners, at most 762. The complete list has 256 more, a hit of each batter.
func long(t *testing.T, errors int) earned.Half {
	t.Helper()
	l := acts(t, "X X 0-1b:1;X X 1-2b:1 0-1b:1;X X 2-3b:1 1-2b:1 0-1b:1")
	full := acts(t, "X X 3-4b:1 2-3b:1 1-2b:1 0-1b:1")
	h := earned.Half{Plays: append(l, slices.Repeat(full, api.MaxPlays-len(l))...)}
	for at := range h.Plays {
		for from := min(at, 3); from > 0 && len(h.Judgments) < errors; from-- {
			h.Judgments = append(h.Judgments, api.Judgment{Play: at, From: from, Kind: "error", Base: from, Fielder: 1, Rule: 3})
		}
	}
	return h
}

// crowded returns a half with a complete list that is too long, though the list is not.
func crowded(t *testing.T) earned.Half {
	t.Helper()
	h := long(t, 762)
	var l []api.Judgment
	for at := range h.Plays {
		l = append(l, judge.Of(h.Judgments, at)...)
		if 0 < at && at <= 7 {
			l = append(l, api.Judgment{Play: at, Kind: "sacrifice", Rule: 9})
		}
	}
	h.Judgments = l
	return h
}

// wrongHalves returns halves with an error, and this error. Each one has an error in all parts behind the wrong one, too.
func wrongHalves(t *testing.T) map[string]struct {
	h   earned.Half
	err api.Errno
} {
	t.Helper()
	type row = struct {
		h   earned.Half
		err api.Errno
	}
	over := gone + gone + gone
	noTouch := append(acts(t, over+one), api.Play{Pitches: "X", Event: "X", Moves: []api.Move{{To: 1, Out: true, How: "f"}}})
	many := crowded(t)
	many.Relief = []int{0}
	h := func(plays, judgments string, relief ...int) earned.Half {
		return inning(t, plays, judgments, relief...)
	}
	return map[string]row{
		"a rule is broken":            {h(over+one+"X X 2-4b", "9 0 walk 0 0", 9), api.ErrRule},
		"a form is wrong":             {earned.Half{Plays: append(acts(t, over+one), api.Play{Pitches: "Q"}), Judgments: rulings("9 0 walk 0 0"), Relief: []int{9}}, api.ErrPitch},
		"a move without touches":      {earned.Half{Plays: noTouch, Judgments: rulings("9 0 walk 0 0"), Relief: []int{9}}, api.ErrTouch},
		"too many plays":              {earned.Half{Plays: slices.Repeat(acts(t, homer), api.MaxPlays+1), Judgments: rulings("999 0 walk 0 0")}, api.ErrMany},
		"the half ends too early":     {h(over+one, "9 0 walk 0 0", 9), api.ErrOver},
		"two plays too early":         {h(over+one+gone, ""), api.ErrOver},
		"a ball behind the half":      {h(over+"B -", ""), api.ErrOver},
		"an inning behind the half":   {h(over+over+one, ""), api.ErrOver},
		"too many judgments":          {earned.Half{Plays: acts(t, one), Judgments: make([]api.Judgment, api.MaxJudgments+1), Relief: []int{9}}, api.ErrMany},
		"a judgment of no play":       {h(one, "1 0 hit 1 0", 9), api.ErrUnknown},
		"a judgment of no kind":       {h(one, "0 0 walk 1 0", 9), api.ErrKind},
		"a judgment by another rule":  {earned.Half{Plays: acts(t, one), Judgments: []api.Judgment{{Kind: "hit", Base: 1, Rule: 2}}}, api.ErrRule},
		"a judgment of no move":       {h(one, "0 1 hit 1 0", 9), api.ErrNone},
		"a judgment that fits not":    {h(one, "0 0 life 0 7", 9), api.ErrJudge},
		"judgments in a wrong order":  {h(homer+one, "1 0 hit 1 0;0 0 hit 4 0", 9), api.ErrOrder},
		"judgments that exclude":      {h(one, "0 0 hit 1 0;0 0 life 0 6", 9), api.ErrConflict},
		"too many with what misses":   {many, api.ErrMany},
		"relief before the half":      {h(one+gone+gone, "", -1, -2), api.ErrRange},
		"relief before its first":     {h(one+gone+gone, "", 0, 0), api.ErrRange},
		"relief behind the half":      {h(one+gone+gone, "", 3, 1), api.ErrRange},
		"relief far behind":           {h(one+gone+gone, "", 1, 1<<62), api.ErrRange},
		"relief twice":                {h(one+gone+gone, "", 1, 1, 7), api.ErrOrder},
		"relief in a wrong order":     {h(one+gone+gone, "", 2, 1), api.ErrOrder},
		"relief out of range, behind": {h(one+gone+gone, "", 2, 0), api.ErrRange},
		"relief of one play":          {h(one, "", 1), api.ErrRange},
		"relief of no plays":          {h("", "", 0), api.ErrRange},
	}
}

func TestExamples(t *testing.T) {
	h := example(t)
	runners, e := earned.Runners(h)
	want(t, "the runners", []any{runners, e}, []any{[]earned.Runner{{0, -1, 2}, {1, 3, -1}, {2, 4, -1}, {3, -1, -1}, {4, -1, -1}}, api.OK})
	bases, e := earned.Bases(h)
	want(t, "the bases before the play 3", []any{bases[3], e}, []any{[3]int{3, 2, 0}, api.OK})

	outs, e := earned.Outs(h, 0)
	want(t, "the outs", []any{outs, e}, []any{[]earned.Out{{0, 1, false}}, api.OK})
	places, e := earned.Places(h, 0)
	want(t, "the places", []any{places, e}, []any{[][]int{{0}, {0, 1}, {0, 2, 1}, {0, 4, 2, 1}, {0, 4, 4, 3, 2}}, api.OK})
	runs, e := earned.Earned(h, 0)
	want(t, "the earned runs", []any{runs, e}, []any{[]int{2, 3}, api.OK})

	wrong := example(t)
	wrong.Judgments = append(wrong.Judgments, rulings("3 1 life 0 0")...)
	want(t, "a life without a touch", earned.CheckHalf(wrong), api.ErrJudge)
	other := inning(t, strings.Replace(doc, "2-4b 1-2b 0-1b", "2-4b 1-2b:4 0-1b", 1), docLife+"2 0 choice 0 0;3 1 life 0 4", 3)
	runs, e = earned.Earned(other, 0)
	want(t, "the earned runs with a second life", []any{runs, e}, []any{[]int{2}, api.OK})
	runs, e = earned.Unearned(other, 0)
	want(t, "the other runs", []any{runs, e}, []any{[]int{3}, api.OK})
	outs, _ = earned.Outs(other, 0)
	want(t, "two outs", outs, []earned.Out{{0, 1, false}, {3, 3, false}})
	_, e = earned.Third(other, 0)
	want(t, "no third out", e, api.ErrNone)

	charges, e := earned.Charges(h)
	want(t, "the charges", []any{charges, e}, []any{[]int{0, 0, 0, 1, 1}, api.OK})
	lines, e := earned.Lines(h)
	want(t, "the lines", []any{lines, e}, []any{[]earned.Line{{From: 0, Runs: 2, Earned: 2}, {From: 3, Inherited: 2, Scored: 2}}, api.OK})

	wrong = inning(t, doc, "1 1 error 1 0")
	want(t, "an error without a touch", earned.CheckHalf(wrong), api.ErrJudge)
	pushed := inning(t, strings.Replace(doc, "1-2b 0-1b", "1-2b:8 0-1b", 1), "1 1 error 1 8;2 0 choice 0 0", 3)
	places, e = earned.Places(pushed, 0)
	want(t, "a runner who is pushed on", []any{places[1], e}, []any{[]int{2, 1}, api.OK})

	average, e := earned.Average(3, 20)
	want(t, "an average", []any{average, e}, []any{api.Ratio{Num: 81, Den: 20}, api.OK})
}
