package legal_test

import (
	"slices"
	"testing"

	"dugout/api"
	"dugout/legal"
	"dugout/rule"
)

// families returns families of several kinds.
func families() []legal.Family {
	return []legal.Family{
		simple(),
		late(simple()),
		of("X", "X Y", "b", "fcy"),
		of("- B C", "- K W", "ps", "gk"),
		of("CCC S", "K -", "pt", "kf"),
		of("- X H BBBB", "I W H -", "a", ""),
		of("-", "- N", "k", "n"),
		late(of("X", "X", "t", "g")),
		of("X", "X", "b", "cd"),
		of("FX BBBBB", "X W", "bo", "f"),
		of("BC", "-", "", ""),
	}
}

func TestCandidates(t *testing.T) {
	l, e := legal.Candidates(rule.Start(), simple())
	want(t, "the first example", []any{printed(t, l), e}, []any{[]string{"X X", "X X 0-1b", "X X 0-2b", "X X 0-3b", "X X 0-4b", "X X 0x1f:63"}, api.OK})
	third := state(t, "1t 0 0-0 001 21 0:0 on")
	l, e = legal.Candidates(third, late(of("X -", "Y -", "s", "gc")))
	batter := func(head string) []string {
		return []string{head, head + " 0x1g:63", head + " 0x1c:63", head + " 0x2g:63", head + " 0x3g:63", head + " 0x4g:63"}
	}
	var listed []string
	for _, pitches := range []string{"X", "-"} {
		for _, moves := range []string{"", " 3-4s", " 3x3g:63", " 3x4g:63"} {
			listed = append(listed, batter(pitches+" Y"+moves)...)
		}
		for _, moves := range []string{"", " 3-4s", " 3x3g:63", " 3x4g:63"} {
			listed = append(listed, batter(pitches+" Y late"+moves)...)
		}
		listed = append(listed, pitches+" -", pitches+" - 3-4s", pitches+" - 3x3g:63", pitches+" - 3x4g:63")
		listed = append(listed, pitches+" - late", pitches+" - late 3-4s", pitches+" - late 3x3g:63", pitches+" - late 3x4g:63")
	}
	want(t, "the error of Candidates", e, api.OK)
	sameStrings(t, "the order", printed(t, l), listed)
	l, e = legal.Candidates(full(t), of("C", "-", "", "gf"))
	want(t, "the runners in order", []any{printed(t, l)[:6], len(l), e}, []any{[]string{"C -", "C - 1x1g:63", "C - 1x2g:63", "C - 1x2f:63", "C - 1x3g:63", "C - 1x4g:63"}, 6 * 5 * 4, api.OK})
}

func TestListsByTheirDefinition(t *testing.T) {
	for _, s := range samples(t) {
		for _, f := range families() {
			if n, _ := legal.Size(s, f); n > 3000 {
				continue
			}
			candidates, e := legal.Candidates(s, f)
			want(t, "the error of Candidates", e, api.OK)
			sameStrings(t, "the candidates", printed(t, candidates), printed(t, formed(s, f)))
			plays, e := legal.Plays(s, f)
			want(t, "the error of Plays", e, api.OK)
			accepted, states := permitted(s, f)
			sameStrings(t, "the plays", printed(t, plays), printed(t, accepted))
			follows, e := legal.Follows(s, f)
			want(t, "the error of Follows", e, api.OK)
			sameStrings(t, "the states after them", shown(t, follows), shown(t, distinct(states)))
			refusals, e := legal.Refusals(s, f)
			want(t, "the error of Refusals", e, api.OK)
			want(t, "the refusals", refusals, refused(s, f))
		}
	}
}

// distinct returns the states of a list, each one where it is found first.
func distinct(states []rule.State) []rule.State {
	var l []rule.State
	for _, s := range states {
		if !slices.Contains(l, s) {
			l = append(l, s)
		}
	}
	return l
}

// refused returns the refusals by their definition.
func refused(s rule.State, f legal.Family) []legal.Refusal {
	var l []legal.Refusal
	for number := 1; number <= 13; number++ {
		n := 0
		for _, p := range formed(s, f) {
			if _, broken, _ := rule.Apply(s, p); broken == number {
				n++
			}
		}
		if n > 0 {
			l = append(l, legal.Refusal{Rule: number, Plays: n})
		}
	}
	return l
}

func TestPlays(t *testing.T) {
	on := state(t, "1t 0 0-0 100 21 0:0 on")
	for what, x := range map[string]struct {
		state  rule.State
		family legal.Family
		plays  []string
	}{
		"the first example":       {rule.Start(), simple(), []string{"X X 0-1b", "X X 0-2b", "X X 0-3b", "X X 0-4b", "X X 0x1f:63"}},
		"Late without effect":     {rule.Start(), late(simple()), []string{"X X 0-1b", "X X 0-2b", "X X 0-3b", "X X 0-4b", "X X 0x1f:63"}},
		"two strikes":             {rule.Start(), of("CC", "-", "b", "f"), []string{"CC -"}},
		"three strikes":           {rule.Start(), of("CCC", "-", "b", "f"), nil},
		"a walk":                  {rule.Start(), of("BBBB", "W", "a", "f"), []string{"BBBB W 0-1a"}},
		"nothing happens":         {rule.Start(), of("-", "-", "", ""), []string{"- -"}},
		"a stolen base":           {on, of("-", "-", "s", "g"), []string{"- -", "- - 1-2s", "- - 1-3s", "- - 1-4s", "- - 1x1g:63", "- - 1x2g:63", "- - 1x3g:63", "- - 1x4g:63"}},
		"on first base, by force": {on, simple(), []string{"X X 0x1f:63", "X X 1-2b 0-1b", "X X 1-2b 0x1f:63", "X X 1-3b 0-1b", "X X 1-3b 0-2b", "X X 1-3b 0x1f:63", "X X 1-4b 0-1b", "X X 1-4b 0-2b", "X X 1-4b 0-3b", "X X 1-4b 0-4b", "X X 1-4b 0x1f:63", "X X 1x2f:63 0-1b", "X X 1x2f:63 0-2b", "X X 1x2f:63 0-3b", "X X 1x2f:63 0-4b", "X X 1x2f:63 0x1f:63"}},
		"a late run":              {state(t, "1t 2 0-0 001 21 0:0 on"), late(of("X", "X", "b", "g")), []string{"X X 0-1b", "X X 0-2b", "X X 0x1g:63", "X X 0x2g:63", "X X 0x3g:63", "X X 0x4g:63", "X X 3-4b 0-1b", "X X 3-4b 0-2b", "X X 3-4b 0-3b", "X X 3-4b 0-4b", "X X 3-4b 0x1g:63", "X X 3-4b 0x2g:63", "X X 3-4b 0x3g:63", "X X 3-4b 0x4g:63", "X X 3x3g:63 0-1b", "X X 3x3g:63 0-2b", "X X 3x3g:63 0-3b", "X X 3x3g:63 0-4b", "X X 3x4g:63 0-1b", "X X 3x4g:63 0-2b", "X X 3x4g:63 0-3b", "X X 3x4g:63 0-4b", "X X late 3-4b 0x1g:63", "X X late 3-4b 0x2g:63", "X X late 3-4b 0x3g:63", "X X late 3-4b 0x4g:63", "X X late 3x3g:63 0-4b", "X X late 3x4g:63 0-4b"}},
		"a score that is full":    {state(t, "4t 0 0-0 000 41 9999:0 on"), simple(), []string{"X X 0-1b", "X X 0-2b", "X X 0-3b", "X X 0x1f:63"}},
	} {
		l, e := legal.Plays(x.state, x.family)
		want(t, what+", the error", e, api.OK)
		sameStrings(t, what, printed(t, l), x.plays)
	}
}

func TestRefusals(t *testing.T) {
	for what, x := range map[string]struct {
		state    rule.State
		family   legal.Family
		refusals []legal.Refusal
	}{
		"the first example":     {rule.Start(), simple(), []legal.Refusal{{Rule: 3, Plays: 1}}},
		"none":                  {rule.Start(), of("C", "-", "", ""), nil},
		"the rule of pitches":   {rule.Start(), of("BBBBB", "X", "b", "f"), []legal.Refusal{{Rule: 1, Plays: 6}}},
		"several, ascending":    {rule.Start(), of("C CCCC X", "- X", "bt", "f"), []legal.Refusal{{Rule: 1, Plays: 11}, {Rule: 2, Plays: 11}, {Rule: 3, Plays: 1}}},
		"the last rule":         {rule.Start(), late(simple()), []legal.Refusal{{Rule: 3, Plays: 2}, {Rule: 13, Plays: 5}}},
		"a score that is full":  {state(t, "4t 0 0-0 000 41 9999:0 on"), simple(), []legal.Refusal{{Rule: 3, Plays: 1}}},
		"the rules 3, 8 and 11": {state(t, "1t 0 0-0 010 21 0:0 on"), simple(), []legal.Refusal{{Rule: 3, Plays: 4}, {Rule: 8, Plays: 5}, {Rule: 11, Plays: 5}}},
	} {
		l, e := legal.Refusals(x.state, x.family)
		want(t, what+", the error", e, api.OK)
		want(t, what, l, x.refusals)
	}
}

func TestExplain(t *testing.T) {
	on, twoOuts := state(t, "1t 0 0-0 100 21 0:0 on"), state(t, "1t 2 0-0 210 31 0:0 on")
	for what, x := range map[string]struct {
		state rule.State
		play  string
		name  string
		err   api.Errno
	}{
		"no rule":      {rule.Start(), "CC -", "", api.OK},
		"pitches":      {rule.Start(), "CCCC -", "pitches", api.OK},
		"event":        {rule.Start(), "CCC -", "event", api.OK},
		"batter":       {rule.Start(), "X X", "batter", api.OK},
		"runners":      {rule.Start(), "B - 1-2s", "runners", api.OK},
		"way":          {rule.Start(), "X X 0-1a", "batter's way", api.OK},
		"third strike": {on, "CCC K 0-1p", "third strike", api.OK},
		"infield fly":  {twoOuts, "X Y 0x1y:6", "infield fly", api.OK},
		"ways":         {on, "X X 1-2s 0-1b", "ways", api.OK},
		"balk":         {on, "- - 1-3k", "balk", api.OK},
		"awards":       {on, "BBBB W 0-1a", "awards", api.OK},
		"order":        {on, "X X 0-1b", "order", api.OK},
		"outs":         {twoOuts, "X X 1x2f:6 0x1f:63", "outs", api.OK},
		"late runs":    {on, "X X late 0x1f:63", "late runs", api.OK},
		"the score":    {state(t, "4t 0 0-0 000 41 9999:0 on"), "X X 0-4b", "", api.ErrLarge},
		"the rule":     {state(t, "4t 0 0-0 000 41 9999:0 on"), "X W 0-4b", "event", api.OK},
	} {
		name, e := legal.Explain(x.state, acts(t, x.play)[0])
		want(t, what, []any{name, e}, []any{x.name, x.err})
	}
}

func TestExplainErrors(t *testing.T) {
	for what, x := range wrongStates(t) {
		name, e := legal.Explain(x.state, api.Play{Event: "Z"})
		want(t, what, []any{name, e}, []any{"", x.err})
	}
	for what, x := range map[string]struct {
		play api.Play
		err  api.Errno
	}{
		"a pitch":         {api.Play{Pitches: "Z"}, api.ErrPitch},
		"an event":        {api.Play{Event: "Z"}, api.ErrKind},
		"too many moves":  {api.Play{Moves: make([]api.Move, 5)}, api.ErrMany},
		"a base":          {api.Play{Pitches: "X", Event: "X", Moves: []api.Move{{To: 5, How: "b"}}}, api.ErrRange},
		"a move":          {api.Play{Moves: []api.Move{{From: 2, To: 1, How: "s"}}}, api.ErrMove},
		"touches":         {api.Play{Moves: []api.Move{{From: 2, To: 2, Out: true, How: "g"}}}, api.ErrTouch},
		"a runner before": {api.Play{Moves: []api.Move{{From: 1, To: 2, How: "s"}, {From: 2, To: 3, How: "s"}}}, api.ErrOrder},
	} {
		name, e := legal.Explain(rule.Start(), x.play)
		want(t, what, []any{name, e}, []any{"", x.err})
	}
}

// listings calls the functions that list the combinations of a family, and returns how many elements each one lists, and its error.
func listings(s rule.State, f legal.Family) [4][2]int {
	candidates, e0 := legal.Candidates(s, f)
	plays, e1 := legal.Plays(s, f)
	refusals, e2 := legal.Refusals(s, f)
	follows, e3 := legal.Follows(s, f)
	return [4][2]int{{len(candidates), int(e0)}, {len(plays), int(e1)}, {len(refusals), int(e2)}, {len(follows), int(e3)}}
}

func failed(e api.Errno) [4][2]int {
	return [4][2]int{{0, int(e)}, {0, int(e)}, {0, int(e)}, {0, int(e)}}
}

func TestListingErrors(t *testing.T) {
	for what, x := range wrongStates(t) {
		want(t, what, listings(x.state, legal.Family{}), failed(x.err))
	}
	for what, x := range wrongFamilies() {
		want(t, what, listings(rule.Start(), x.family), failed(x.err))
	}
}

func TestListingLimit(t *testing.T) {
	first, second := state(t, "1t 0 0-0 201 31 0:0 on"), state(t, "1t 0 0-0 010 21 0:0 on")
	most, more := of("X", "K W H X N", "bapto", "f"), of("X B -", "- K W H X N I", "bapt", "fgcdky")
	n, _ := legal.Size(first, most)
	want(t, "the size that is permitted", n, 20000)
	n, _ = legal.Size(second, more)
	want(t, "the size that is not", n, 20007)
	for _, x := range listings(first, most) {
		want(t, "a family of 20000", x[1], int(api.OK))
	}
	want(t, "a family of 20007", listings(second, more), failed(api.ErrLimit))
	want(t, "the menu with each runner", listings(full(t), legal.Menu()), failed(api.ErrLimit))
}

func TestPlaysHaveTheirOwnMemory(t *testing.T) {
	f := simple()
	for what, list := range map[string]func() []api.Play{
		"Candidates": func() []api.Play { l, _ := legal.Candidates(full(t), f); return l },
		"Plays":      func() []api.Play { l, _ := legal.Plays(full(t), f); return l },
	} {
		unchanged := printed(t, list())
		checkSeparate(t, what, list())
		want(t, what+", the family", f, simple())
		sameStrings(t, what+" again", printed(t, list()), unchanged)
	}
}

// checkSeparate expects no two moves of plays, and no two touches, to share memory; it overwrites them.
func checkSeparate(t *testing.T, what string, l []api.Play) {
	t.Helper()
	var numbers []*int
	for _, p := range l {
		for i := range p.Moves {
			numbers = append(numbers, &p.Moves[i].From)
			for j := range p.Moves[i].By {
				numbers = append(numbers, &p.Moves[i].By[j])
			}
		}
	}
	for i, n := range numbers {
		*n = i
	}
	for i, n := range numbers {
		if *n != i {
			t.Fatalf("%s: two plays share memory", what)
		}
	}
}
