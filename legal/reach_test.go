package legal_test

import (
	"slices"
	"testing"

	"dugout/api"
	"dugout/legal"
	"dugout/rule"
)

func TestFollows(t *testing.T) {
	for what, x := range map[string]struct {
		state  rule.State
		family legal.Family
		states []string
	}{
		"the first example":     {rule.Start(), simple(), []string{"1t 0 0-0 100 21 0:0 on", "1t 0 0-0 010 21 0:0 on", "1t 0 0-0 001 21 0:0 on", "1t 0 0-0 000 21 1:0 on", "1t 1 0-0 000 21 0:0 on"}},
		"the same state twice":  {rule.Start(), of("X", "X", "bt", "fg"), []string{"1t 0 0-0 100 21 0:0 on", "1t 0 0-0 010 21 0:0 on", "1t 0 0-0 001 21 0:0 on", "1t 0 0-0 000 21 1:0 on", "1t 1 0-0 000 21 0:0 on"}},
		"the state itself":      {rule.Start(), of("- B C", "-", "", ""), []string{"1t 0 0-0 000 11 0:0 on", "1t 0 1-0 000 11 0:0 on", "1t 0 0-1 000 11 0:0 on"}},
		"no plays":              {rule.Start(), of("X", "W", "b", "f"), nil},
		"a game that is over":   {state(t, "9b 0 0-0 001 52 3:3 on"), of("X", "X", "b", ""), []string{"9b 0 0-0 201 53 3:3 on", "9b 0 0-0 021 53 3:3 on", "9b 0 0-0 000 53 3:4 over", "9b 0 0-0 000 53 3:5 over"}},
		"a half that has ended": {state(t, "1t 2 0-0 000 41 0:0 on"), of("X", "X", "", "f"), []string{"1b 0 0-0 000 51 0:0 on"}},
		"a score that is full":  {state(t, "4t 0 0-0 000 41 9999:0 on"), simple(), []string{"4t 0 0-0 400 51 9999:0 on", "4t 0 0-0 040 51 9999:0 on", "4t 0 0-0 004 51 9999:0 on", "4t 1 0-0 000 51 9999:0 on"}},
	} {
		l, e := legal.Follows(x.state, x.family)
		want(t, what+", the error", e, api.OK)
		sameStrings(t, what, shown(t, l), x.states)
	}
}

// reached lists the states within reach by their definition, if no family is too large and there are not too many states.
func reached(s rule.State, f legal.Family, plays int) []rule.State {
	list, depths := []rule.State{s}, []int{0}
	for i := 0; i < len(list); i++ {
		if depths[i] == plays || list[i].Over {
			continue
		}
		_, states := permitted(list[i], f)
		for _, next := range states {
			if !slices.Contains(list, next) {
				list, depths = append(list, next), append(depths, depths[i]+1)
			}
		}
	}
	return list
}

// walked returns how many paths of each number of plays there are, by their definition, one path after another.
func walked(s rule.State, f legal.Family, plays int) []int {
	numbers := make([]int, plays+1)
	numbers[0] = 1
	if plays == 0 || s.Over {
		return numbers
	}
	_, states := permitted(s, f)
	for _, next := range states {
		for i, n := range walked(next, f, plays-1) {
			numbers[i+1] += n
		}
	}
	return numbers
}

// smallFamilies returns families whose paths can be walked one by one.
func smallFamilies() []legal.Family {
	return []legal.Family{
		simple(),
		late(simple()),
		of("X", "X", "", "fg"),
		of("- B CC", "-", "s", ""),
		of("X B", "X -", "b", ""),
		of("BBBB CCC", "W K", "a", "k"),
		of("X H", "X H", "a", "c"),
		of("X", "W", "b", "f"),
	}
}

func TestReachByItsDefinition(t *testing.T) {
	for _, s := range samples(t) {
		for _, f := range smallFamilies() {
			for plays := range 4 {
				l, e := legal.Reach(s, f, plays)
				want(t, "the error of Reach", e, api.OK)
				sameStrings(t, "the states within reach", shown(t, l), shown(t, reached(s, f, plays)))
			}
		}
	}
}

func TestPathsByTheirDefinition(t *testing.T) {
	for _, s := range samples(t) {
		for _, f := range smallFamilies() {
			for plays := range 3 {
				numbers, e := legal.Paths(s, f, plays)
				want(t, "the numbers of paths", []any{numbers, e}, []any{walked(s, f, plays), api.OK})
			}
		}
	}
	for plays, wanted := range [][]int{{1}, {1, 5}, {1, 5, 44}, {1, 5, 44, 508}, {1, 5, 44, 508, 6862}} {
		numbers, e := legal.Paths(rule.Start(), simple(), plays)
		want(t, "the paths of the family A", []any{numbers, e}, []any{wanted, api.OK})
	}
	want(t, "walked one by one", walked(rule.Start(), simple(), 4), []int{1, 5, 44, 508, 6862})
}

func TestReach(t *testing.T) {
	start := []string{"1t 0 0-0 000 11 0:0 on"}
	first := append(slices.Clone(start), "1t 0 0-0 100 21 0:0 on", "1t 0 0-0 010 21 0:0 on", "1t 0 0-0 001 21 0:0 on", "1t 0 0-0 000 21 1:0 on", "1t 1 0-0 000 21 0:0 on")
	outs := append(slices.Clone(start), "1t 1 0-0 000 21 0:0 on", "1t 2 0-0 000 31 0:0 on", "1b 0 0-0 000 41 0:0 on", "1b 1 0-0 000 42 0:0 on")
	for what, x := range map[string]struct {
		state  rule.State
		family legal.Family
		plays  int
		states []string
	}{
		"no play":                 {rule.Start(), simple(), 0, start},
		"the second example":      {rule.Start(), simple(), 1, first},
		"outs":                    {rule.Start(), of("X", "X", "", "f"), 4, outs},
		"outs, with three plays":  {rule.Start(), of("X", "X", "", "f"), 3, outs[:4]},
		"no plays":                {rule.Start(), of("X", "W", "b", "f"), 4, start},
		"back to the same state":  {state(t, "1t 0 0-2 000 11 0:0 on"), of("F -", "-", "", ""), 4, []string{"1t 0 0-2 000 11 0:0 on"}},
		"behind the last out":     {state(t, "9b 2 0-0 000 52 4:3 on"), of("X", "X", "", "f"), 4, []string{"9b 2 0-0 000 52 4:3 on", "9b 0 0-0 000 53 4:3 over"}},
		"first by fewer plays":    {rule.Start(), of("B BB", "-", "", ""), 2, []string{"1t 0 0-0 000 11 0:0 on", "1t 0 1-0 000 11 0:0 on", "1t 0 2-0 000 11 0:0 on", "1t 0 3-0 000 11 0:0 on"}},
		"a game that may be over": {state(t, "9b 0 0-0 001 52 3:3 on"), of("-", "-", "s", ""), 4, []string{"9b 0 0-0 001 52 3:3 on", "9b 0 0-0 000 52 3:4 over"}},
	} {
		l, e := legal.Reach(x.state, x.family, x.plays)
		want(t, what+", the error", e, api.OK)
		sameStrings(t, what, shown(t, l), x.states)
	}
	l, e := legal.Reach(rule.Start(), simple(), 2)
	want(t, "two plays", []any{len(l), e}, []any{21, api.OK})
	sameStrings(t, "two plays", shown(t, l)[:6], first)
}

func TestPaths(t *testing.T) {
	for what, x := range map[string]struct {
		state   rule.State
		family  legal.Family
		plays   int
		numbers []int
	}{
		"no play":             {rule.Start(), simple(), 0, []int{1}},
		"outs":                {rule.Start(), of("X", "X", "", "f"), 4, []int{1, 1, 1, 1, 1}},
		"the same state":      {rule.Start(), of("X", "X", "", "fg"), 2, []int{1, 5, 25}},
		"nothing happens":     {state(t, "1t 0 0-2 000 11 0:0 on"), of("F - FF", "-", "", ""), 4, []int{1, 3, 9, 27, 81}},
		"no plays":            {rule.Start(), of("X", "W", "b", "f"), 3, []int{1, 0, 0, 0}},
		"balls":               {rule.Start(), of("B BB", "-", "", ""), 4, []int{1, 2, 3, 1, 0}},
		"a game that is over": {state(t, "9b 2 0-0 000 52 4:3 on"), of("X", "X", "", "f"), 3, []int{1, 1, 0, 0}},
		"half of them over":   {state(t, "9b 0 0-0 001 52 3:3 on"), of("-", "-", "s", ""), 3, []int{1, 2, 2, 2}},
	} {
		numbers, e := legal.Paths(x.state, x.family, x.plays)
		want(t, what, []any{numbers, e}, []any{x.numbers, api.OK})
	}
}

func TestReachErrors(t *testing.T) {
	check := func(what string, s rule.State, f legal.Family, plays int, err api.Errno) {
		t.Helper()
		l, e := legal.Reach(s, f, plays)
		want(t, what+", Reach", []any{len(l), e}, []any{0, err})
		numbers, e := legal.Paths(s, f, plays)
		want(t, what+", Paths", []any{len(numbers), e}, []any{0, err})
	}
	for what, x := range wrongStates(t) {
		check(what, x.state, legal.Family{}, -1, x.err)
	}
	for what, x := range wrongFamilies() {
		check(what, rule.Start(), x.family, -1, x.err)
	}
	for _, plays := range []int{-1, 5, 1 << 40, -1 << 62} {
		check("a number of plays", full(t), legal.Menu(), plays, api.ErrRange)
	}
	check("the menu with each runner", full(t), legal.Menu(), 1, api.ErrLimit)
	check("the menu with two plays before", rule.Start(), legal.Menu(), 4, api.ErrLimit)
}

func TestReachAsksForNoPlaysBehindTheLast(t *testing.T) {
	l, e := legal.Reach(full(t), legal.Menu(), 0)
	want(t, "Reach", []any{l, e}, []any{[]rule.State{full(t)}, api.OK})
	numbers, e := legal.Paths(full(t), legal.Menu(), 0)
	want(t, "Paths", []any{numbers, e}, []any{[]int{1}, api.OK})
	way, e := legal.Shortest(full(t), legal.Menu(), legal.Goal{}, 0)
	want(t, "Shortest", []any{len(way), e}, []any{0, api.OK})
	_, e = legal.Reach(rule.Start(), legal.Menu(), 2)
	want(t, "Reach of two plays", e, api.OK)
	_, e = legal.Paths(rule.Start(), legal.Menu(), 2)
	want(t, "Paths of two plays", e, api.OK)
}

// TestReachLimit asks for as many states as are permitted, and for one more. In these families a play may change nothing, so that the paths of three plays lead to all states within reach.
func TestReachLimit(t *testing.T) {
	most := of("X BBBC BBB - F CC BBBCC", "X -", "b", "g")
	more := of("X C CC - BB BC BBCC", "X -", "b", "g")
	for what, check := range map[string]func(*testing.T){
		"Reach of 1000 states": func(t *testing.T) {
			l, e := legal.Reach(state(t, "1t 0 0-0 321 41 9993:0 on"), most, 3)
			want(t, "the states", []any{len(l), e}, []any{1000, api.OK})
		},
		"Paths to 1000 states": func(t *testing.T) {
			numbers, e := legal.Paths(state(t, "1t 0 0-0 321 41 9993:0 on"), most, 3)
			want(t, "the paths", []any{numbers, e}, []any{[]int{1, 1218, 79916, 2806876}, api.OK})
		},
		"Reach of 1001 states": func(t *testing.T) {
			l, e := legal.Reach(state(t, "9b 0 0-0 321 14 5:0 on"), more, 3)
			want(t, "the states", []any{len(l), e}, []any{0, api.ErrMany})
		},
		"Paths to 1001 states": func(t *testing.T) {
			numbers, e := legal.Paths(state(t, "9b 0 0-0 321 14 5:0 on"), more, 3)
			want(t, "the paths", []any{len(numbers), e}, []any{0, api.ErrMany})
		},
		"Shortest makes the whole list": func(t *testing.T) {
			way, e := legal.Shortest(full(t), of("X B F BBBC BC -", "X -", "b", "f"), legal.Goal{Runs: 1}, 3)
			want(t, "the way", []any{len(way), e}, []any{0, api.ErrMany})
		},
	} {
		t.Run(what, func(t *testing.T) {
			t.Parallel()
			check(t)
		})
	}
}

func TestPathsLimit(t *testing.T) {
	f := of("CX BBX CCX BX X", "X -", "bt", "")
	numbers, e := legal.Paths(full(t), f, 4)
	want(t, "four plays", []any{len(numbers), e}, []any{0, api.ErrLarge})
	numbers, e = legal.Paths(full(t), f, 3)
	want(t, "three plays", []any{len(numbers), e}, []any{4, api.OK})
	l, e := legal.Reach(full(t), f, 4)
	want(t, "the states of four plays", []any{len(l), e}, []any{33, api.OK})
}
