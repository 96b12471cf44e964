package legal_test

import (
	"strings"
	"testing"

	"dugout/api"
	"dugout/legal"
	"dugout/rule"
)

func TestCheckFamily(t *testing.T) {
	for what, x := range wrongFamilies() {
		want(t, what, legal.CheckFamily(x.family), x.err)
	}
	for what, f := range map[string]legal.Family{
		"the family A":   simple(),
		"no ways":        of("X", "X", "", ""),
		"no safe moves":  of("X", "X", "", "f"),
		"no outs":        of("X", "X", "b", ""),
		"8 strings":      of("- B C S F X H BB", "X", "b", "f"),
		"24 pitches":     of(strings.Repeat("F", 24), "-", "b", "f"),
		"too many balls": of("BBBBB", "W", "b", "f"),
		"all events":     of("X", "- K W H I X N Y", "b", "f"),
		"all ways":       of("X", "X", "baspkto", "fgcdkny"),
		"another order":  of("X", "X", "otkpsab", "ynkdcgf"),
		"9 touches":      with(func(f *legal.Family) { f.By = []int{1, 2, 3, 4, 5, 6, 7, 8, 9} }),
		"touches again":  with(func(f *legal.Family) { f.By = []int{9, 1, 9} }),
		"Late":           late(simple()),
		"the menu":       legal.Menu(),
	} {
		want(t, what, legal.CheckFamily(f), api.OK)
	}
}

func TestMenu(t *testing.T) {
	menu := legal.Family{Pitches: []string{"X", "BBBB", "CCC", ""}, Events: []string{"X", "W", "K", ""}, Safe: "bas", Outs: "fck", By: []int{6, 3}}
	f := legal.Menu()
	want(t, "the menu", f, menu)
	f.Pitches[0], f.Events[0], f.By[0] = "B", "N", 9
	f.Pitches = append(f.Pitches[:1], "Z")
	want(t, "the menu again", legal.Menu(), menu)
}

func TestJoin(t *testing.T) {
	eight := of("- B C S F X H BB", "-", "", "")
	for what, x := range map[string]struct{ f, g, joined legal.Family }{
		"itself":            {simple(), simple(), simple()},
		"more of each":      {simple(), of("C X", "- X", "sb", "gf"), of("X C", "X -", "bs", "fg")},
		"the other way":     {of("C X", "- X", "sb", "gf"), simple(), of("C X", "- X", "sb", "gf")},
		"the order of both": {of("X B", "K X", "ta", "yd"), of("C B S X F", "W X K N", "oatb", "dncy"), of("X B C S F", "K X W N", "taob", "ydnc")},
		"nothing in common": {of("X", "X", "b", "f"), of("B", "-", "s", "g"), of("X B", "X -", "bs", "fg")},
		"no ways of f":      {of("X", "X", "", ""), simple(), simple()},
		"no ways of g":      {simple(), of("X", "X", "", ""), simple()},
		"Late of f":         {late(simple()), simple(), late(simple())},
		"Late of g":         {simple(), late(simple()), late(simple())},
		"Late of both":      {late(simple()), late(simple()), late(simple())},
		"touches of f":      {simple(), with(func(f *legal.Family) { f.By = []int{2} }), simple()},
		"8 strings":         {eight, of("BB -", "-", "", ""), eight},
		"all ways":          {of("X", "- K W H I X N Y", "baspkto", "fgcdkny"), of("X", "Y N X I H W K -", "otkpsab", "ynkdcgf"), of("X", "- K W H I X N Y", "baspkto", "fgcdkny")},
	} {
		joined, e := legal.Join(x.f, x.g)
		want(t, what, []any{joined, e}, []any{x.joined, api.OK})
	}
	joined, e := legal.Join(eight, simple())
	want(t, "8 strings, and one of them", []any{len(joined.Pitches), e}, []any{8, api.OK})
	joined, e = legal.Join(eight, of("CC", "-", "", ""))
	want(t, "8 strings, and one more", []any{joined, e}, []any{legal.Family{}, api.ErrMany})
	for what, x := range wrongFamilies() {
		joined, e := legal.Join(x.family, legal.Family{})
		want(t, what+", as f", []any{joined, e}, []any{legal.Family{}, x.err})
		joined, e = legal.Join(eight, x.family)
		want(t, what+", as g", []any{joined, e}, []any{legal.Family{}, x.err})
	}
}

func TestJoinHasItsOwnMemory(t *testing.T) {
	f, g := of("X B", "X W", "b", "f"), of("C", "K", "s", "g")
	// There is room behind these lists, which must stay as it is.
	f.Pitches, f.Events = f.Pitches[:1], f.Events[:1]
	joined, _ := legal.Join(f, g)
	want(t, "the room behind the lists", []any{f.Pitches[:2], f.Events[:2]}, []any{[]string{"X", "B"}, []string{"X", "W"}})
	joined.Pitches[0], joined.Pitches[1], joined.Events[0], joined.Events[1], joined.By[0] = "", "", "", "", 1
	want(t, "the families", []legal.Family{f, g}, []legal.Family{of("X", "X", "b", "f"), of("C", "K", "s", "g")})
}

func TestSize(t *testing.T) {
	on := state(t, "1t 0 0-0 100 21 0:0 on")
	for what, x := range map[string]struct {
		state  rule.State
		family legal.Family
		size   int
	}{
		"the first example":       {rule.Start(), simple(), 9},
		"a runner on first":       {on, simple(), 72},
		"a runner on second":      {state(t, "1t 0 0-0 010 21 0:0 on"), simple(), 54},
		"a runner on third":       {state(t, "1t 0 0-0 001 21 0:0 on"), simple(), 36},
		"each runner":             {full(t), simple(), 9 * 8 * 6 * 4},
		"Late":                    {on, late(simple()), 144},
		"the empty event":         {on, of("X", "-", "b", "f"), 8},
		"the empty event as well": {on, of("X", "- X", "b", "f"), 80},
		"nobody moves":            {rule.Start(), of("X B", "-", "b", "f"), 2},
		"no ways":                 {full(t), of("X B C", "X -", "", ""), 6},
		"safe moves alone":        {full(t), of("X", "X", "ba", ""), 9 * 7 * 5 * 3},
		"outs alone":              {full(t), of("X", "X", "", "fg"), 9 * 9 * 7 * 5},
		"the menu at the start":   {rule.Start(), legal.Menu(), 4 * (25 + 25 + 25 + 1)},
		"as many as possible":     {full(t), late(of("- B C S F X H BB", "- K W H I X N Y", "baspkto", "fgcdkny")), 2 * 8 * 22 * 36 * 50 * (7*57 + 1)},
	} {
		n, e := legal.Size(x.state, x.family)
		want(t, what, []any{n, e}, []any{x.size, api.OK})
	}
	for _, s := range samples(t) {
		for _, f := range []legal.Family{simple(), late(of("X -", "X - W", "ba", "f")), of("X -", "X -", "s", "gf"), of("C", "K N", "", "gny")} {
			n, e := legal.Size(s, f)
			want(t, "the size by its definition", []any{n, e}, []any{len(combinations(s, f)), api.OK})
		}
	}
}

func TestSizeErrors(t *testing.T) {
	for what, x := range wrongStates(t) {
		n, e := legal.Size(x.state, legal.Family{})
		want(t, what, []any{n, e}, []any{0, x.err})
	}
	for what, x := range wrongFamilies() {
		n, e := legal.Size(rule.Start(), x.family)
		want(t, what, []any{n, e}, []any{0, x.err})
	}
}
