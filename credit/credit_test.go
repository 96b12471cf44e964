package credit_test

import (
	"reflect"
	"slices"
	"strconv"
	"strings"
	"testing"

	"dugout/api"
	"dugout/credit"
	"dugout/judge"
	"dugout/play"
)

// want reports a result that is not the expected one; nil and empty lists are equal.
func want(t *testing.T, what string, got, wanted any) {
	t.Helper()
	a, b := reflect.ValueOf(got), reflect.ValueOf(wanted)
	if a.Kind() == reflect.Slice && b.Kind() == reflect.Slice && a.Len() == 0 && b.Len() == 0 {
		return
	}
	if !reflect.DeepEqual(got, wanted) {
		t.Errorf("%s: got %v, want %v", what, got, wanted)
	}
}

// acts returns the plays with strings that are known to have their form.
func acts(t *testing.T, list ...string) []api.Play {
	t.Helper()
	var l []api.Play
	for _, s := range list {
		p, _, e := play.Parse(s)
		if e != api.OK {
			t.Fatalf("play.Parse(%q): error %d", s, e)
		}
		l = append(l, p)
	}
	return l
}

// example returns the game G of the document's examples.
func example(t *testing.T) []api.Play {
	t.Helper()
	return acts(t, "X X 0-1b:6", "C - 1-2p", "X X 2-4b:82 0-2t:82")
}

// kindList are the kinds of credits, in order; the first 16 belong to slots.
var kindList = strings.Split("turn ab h d t hr r rbi w k hp ci sac sb cs lob po a e dp pb out ha wa ka hb ra wp bk", " ")

// rulingList are the kinds of judgments, in the order of their numbers.
var rulingList = []string{"hit", "life", "error", "choice", "wild", "passed", "steal", "idle", "sacrifice"}

// number returns the integer with a string.
func number(s string) int {
	n, err := strconv.Atoi(s)
	if err != nil {
		panic("no integer: " + s)
	}
	return n
}

// ruling returns the judgment with a string; its integers may be negative, and its kind may be none.
func ruling(s string) api.Judgment {
	w := strings.Split(s, " ")
	return api.Judgment{Play: number(w[0]), From: number(w[1]), Kind: w[2], Base: number(w[3]), Fielder: number(w[4]), Rule: 1 + slices.Index(rulingList, w[2])}
}

// rulings returns the judgments with strings.
func rulings(list ...string) []api.Judgment {
	var l []api.Judgment
	for _, s := range list {
		l = append(l, ruling(s))
	}
	return l
}

// gift returns the credit with a string: its play, and then what a total has.
func gift(s string) credit.Credit {
	at, rest, _ := strings.Cut(s, " ")
	x := total(rest)
	return credit.Credit{Play: number(at), Side: x.Side, Kind: x.Kind, Slot: x.Slot, Position: x.Position, N: x.N}
}

// gifts returns the credits with strings.
func gifts(list ...string) []credit.Credit {
	var l []credit.Credit
	for _, s := range list {
		l = append(l, gift(s))
	}
	return l
}

// total returns the total with a string.
func total(s string) credit.Total {
	w := strings.Split(s, " ")
	return credit.Total{Side: number(w[0]), Kind: w[1], Slot: number(w[2]), Position: number(w[3]), N: number(w[4])}
}

// totals returns the totals with strings.
func totals(list ...string) []credit.Total {
	var l []credit.Total
	for _, s := range list {
		l = append(l, total(s))
	}
	return l
}

// shown returns the strings of credits, each without its play.
func shown(l []credit.Credit) []string {
	var texts []string
	for _, c := range l {
		texts = append(texts, strings.Join([]string{strconv.Itoa(c.Side), c.Kind, strconv.Itoa(c.Slot), strconv.Itoa(c.Position), strconv.Itoa(c.N)}, " "))
	}
	return texts
}

// crowd returns a game of 256 plays; from play 3 on all bases are occupied, and everybody goes on by a base.
func crowd(t *testing.T) []api.Play {
	t.Helper()
	l := acts(t, "X X 0-1b:1", "X X 1-2b:1 0-1b:1", "X X 2-3b:1 1-2b:1 0-1b:1")
	full := acts(t, "X X 3-4b:1 2-3b:1 1-2b:1 0-1b:1")[0]
	for len(l) < api.MaxPlays {
		l = append(l, full)
	}
	return l
}

// blamed returns judgments of the crowd: some errors for moves of runners, at most 762, and some sacrifices, at most 255, in order. Their complete list has 256 more, a hit or a choice of each batter.
func blamed(errors, sacrifices int) []api.Judgment {
	var l []api.Judgment
	for at := 1; at < api.MaxPlays; at++ {
		for from := min(at, 3); from > 0 && errors > 0; from-- {
			n := strconv.Itoa(from)
			l = append(l, ruling(strconv.Itoa(at)+" "+n+" error "+n+" 1"))
			errors--
		}
		if sacrifices > 0 {
			l = append(l, ruling(strconv.Itoa(at)+" 0 sacrifice 0 0"))
			sacrifices--
		}
	}
	return l
}

// wrongGames returns lists of plays that are no games, with their errors.
func wrongGames(t *testing.T) map[string]struct {
	plays []api.Play
	err   api.Errno
} {
	t.Helper()
	type row = struct {
		plays []api.Play
		err   api.Errno
	}
	return map[string]row{
		"a rule is broken":      {example(t)[1:], api.ErrRule},
		"a form is wrong":       {append(example(t), api.Play{Pitches: "Q"}), api.ErrPitch},
		"too many plays":        {slices.Repeat(acts(t, "F -"), api.MaxPlays+1), api.ErrMany},
		"a move has no touches": {append(example(t), api.Play{Pitches: "X", Event: "X", Moves: []api.Move{{To: 1, Out: true, How: "f"}}}), api.ErrTouch},
	}
}

// wrongLists returns lists that are none of judgments of the game G, with their errors.
func wrongLists() map[string]struct {
	l   []api.Judgment
	err api.Errno
} {
	type row = struct {
		l   []api.Judgment
		err api.Errno
	}
	return map[string]row{
		"too many judgments":     {make([]api.Judgment, api.MaxJudgments+1), api.ErrMany},
		"no play":                {rulings("3 0 hit 1 0"), api.ErrUnknown},
		"no kind of judgments":   {rulings("0 0 walk 1 0"), api.ErrKind},
		"another rule":           {[]api.Judgment{{Kind: "hit", Base: 1, Rule: 2}}, api.ErrRule},
		"no move":                {rulings("1 0 wild 0 0"), api.ErrNone},
		"what does not fit":      {rulings("0 0 hit 2 0"), api.ErrJudge},
		"a wrong order":          {rulings("1 1 wild 0 0", "0 0 hit 1 0"), api.ErrOrder},
		"judgments that exclude": {rulings("0 0 hit 1 0", "0 0 life 0 6"), api.ErrConflict},
	}
}

func TestExamples(t *testing.T) {
	g := example(t)
	for at, texts := range [][]string{
		{"0 turn 1 0 1", "0 ab 1 0 1", "0 h 1 0 1", "1 ha 0 1 1"},
		{"1 wp 0 1 1"},
		{"0 turn 2 0 1", "0 ab 2 0 1", "0 h 2 0 1", "0 d 2 0 1", "0 r 1 0 1", "0 rbi 2 0 1", "1 ha 0 1 1", "1 ra 0 1 1"},
	} {
		l, e := credit.Credits(g, nil, at)
		want(t, "the credits of a play of G", []any{shown(l), e}, []any{texts, api.OK})
	}

	l, _ := credit.All(g, nil)
	s, _ := credit.Sum(l)
	want(t, "the totals of the side 0", s[:10], totals(
		"0 turn 1 0 1", "0 turn 2 0 1", "0 ab 1 0 1", "0 ab 2 0 1", "0 h 1 0 1", "0 h 2 0 1", "0 d 2 0 1", "0 r 1 0 1", "0 rbi 2 0 1", "1 ha 0 1 2",
	))
	n, e := credit.Bases(s, 0, 2)
	want(t, "the bases of the slot 2", []any{n, e}, []any{2, api.OK})

	life := ruling("0 0 life 0 6")
	effect, e := credit.Effect(g, nil, life)
	want(t, "the effect of a life", []any{effect, e}, []any{totals("0 h 1 0 -1", "1 e 0 6 1", "1 ha 0 1 -1"), api.OK})
	set, _ := judge.Set(g, nil, life)
	rests, e := credit.Rests(g, set, life)
	want(t, "what rests on the life", []any{rests, e}, []any{gifts("0 1 e 0 6 1"), api.OK})

	ways, e := credit.Ways(g)
	want(t, "the ways", []any{ways, e}, []any{[]credit.Way{
		{Slot: 1, Turn: 0, Steps: []credit.Step{{Play: 0, From: 0, To: 1}, {Play: 1, From: 1, To: 2}, {Play: 2, From: 2, To: 4}}, Last: 2, End: "run"},
		{Slot: 2, Turn: 2, Steps: []credit.Step{{Play: 2, From: 0, To: 2}}, Last: 2, End: "on"},
	}, api.OK})

	double := acts(t, "X X 0-1b:6", "X X 1x2f:64 0x1f:643")
	f, e := credit.Double(double, 1)
	want(t, "a double play", []any{f, e}, []any{[]int{3, 4, 6}, api.OK})
	l, _ = credit.Credits(double, nil, 1)
	want(t, "its credits", shown(l), []string{
		"0 turn 2 0 1", "0 ab 2 0 1",
		"1 po 0 3 1", "1 po 0 4 1", "1 a 0 4 1", "1 a 0 6 2", "1 dp 0 3 1", "1 dp 0 4 1", "1 dp 0 6 1", "1 out 0 1 2",
	})
}
