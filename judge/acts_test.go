package judge_test

import (
	"fmt"
	"slices"
	"testing"

	"dugout/api"
	"dugout/judge"
)

func TestSet(t *testing.T) {
	pitches := acts(t, "X X 0-1b", "X X 1-2b 0-1b", "B - 2-3p 1-2p", "B - 3-4p 2-3p")
	for what, row := range map[string]struct {
		plays []api.Play
		l     []string
		j     string
		after []string
	}{
		"into nothing":                  {example(t), nil, "1 1 wild 0 0", []string{"1 1 wild 0 0"}},
		"in front":                      {example(t), []string{"1 1 wild 0 0"}, "0 0 hit 1 0", []string{"0 0 hit 1 0", "1 1 wild 0 0"}},
		"between":                       {example(t), []string{"0 0 hit 1 0", "2 0 hit 2 0"}, "1 1 wild 0 0", []string{"0 0 hit 1 0", "1 1 wild 0 0", "2 0 hit 2 0"}},
		"behind":                        {example(t), []string{"0 0 hit 1 0", "1 1 wild 0 0"}, "2 0 hit 2 0", []string{"0 0 hit 1 0", "1 1 wild 0 0", "2 0 hit 2 0"}},
		"the runner first":              {example(t), []string{"2 0 hit 2 0"}, "2 2 life 0 8", []string{"2 2 life 0 8", "2 0 hit 2 0"}},
		"the batter last":               {example(t), []string{"2 2 life 0 8"}, "2 0 hit 2 0", []string{"2 2 life 0 8", "2 0 hit 2 0"}},
		"kinds by their numbers":        {example(t), []string{"2 0 error 1 8", "2 0 sacrifice 0 0"}, "2 0 choice 0 0", []string{"2 0 error 1 8", "2 0 choice 0 0", "2 0 sacrifice 0 0"}},
		"the same one":                  {example(t), []string{"0 0 life 0 6", "1 1 wild 0 0"}, "0 0 life 0 6", []string{"0 0 life 0 6", "1 1 wild 0 0"}},
		"another base":                  {example(t), []string{"2 0 hit 2 0"}, "2 0 hit 1 0", []string{"2 0 hit 1 0"}},
		"another fielder":               {example(t), []string{"2 2 error 2 8"}, "2 2 error 2 2", []string{"2 2 error 2 2"}},
		"another kind":                  {example(t), []string{"0 0 hit 1 0", "1 1 wild 0 0"}, "0 0 life 0 6", []string{"0 0 life 0 6", "1 1 wild 0 0"}},
		"three are taken out":           {example(t), []string{"2 0 error 1 8", "2 0 choice 0 0", "2 0 sacrifice 0 0"}, "2 0 hit 2 0", []string{"2 0 hit 2 0"}},
		"two are taken out":             {example(t), []string{"2 0 error 1 8", "2 0 choice 0 0", "2 0 sacrifice 0 0"}, "2 0 hit 1 0", []string{"2 0 hit 1 0", "2 0 error 1 8"}},
		"an error, a life, a sacrifice": {example(t), []string{"2 0 error 1 8", "2 0 choice 0 0", "2 0 sacrifice 0 0"}, "2 0 life 0 2", []string{"2 0 life 0 2", "2 0 sacrifice 0 0"}},
		"an error before a hit":         {example(t), []string{"2 0 hit 2 0"}, "2 0 error 1 8", []string{"2 0 error 1 8"}},
		"an error beside a hit":         {example(t), []string{"2 0 hit 1 0"}, "2 0 error 1 8", []string{"2 0 hit 1 0", "2 0 error 1 8"}},
		"of two runners":                {pitches, []string{"2 2 passed 0 0", "2 1 passed 0 0", "3 3 passed 0 0"}, "2 1 wild 0 0", []string{"2 1 wild 0 0", "3 3 passed 0 0"}},
		"of the runner ahead":           {pitches, []string{"2 2 wild 0 0", "2 1 wild 0 0", "3 3 wild 0 0"}, "2 2 passed 0 0", []string{"2 2 passed 0 0", "3 3 wild 0 0"}},
		"of the other runner":           {pitches, []string{"2 1 wild 0 0"}, "2 2 wild 0 0", []string{"2 2 wild 0 0", "2 1 wild 0 0"}},
	} {
		l := rulings(row.l...)
		after, e := judge.Set(row.plays, l, ruling(row.j))
		want(t, "the error of Set: "+what, e, api.OK)
		want(t, "Set: "+what, shown(after), row.after)
		same(t, "the list before: "+what, l, rulings(row.l...))
	}
}

func TestReverse(t *testing.T) {
	all := []string{"0 0 hit 1 0", "1 1 wild 0 0", "2 2 error 3 8", "2 0 hit 1 0", "2 0 error 1 2"}
	for at, s := range all {
		l := rulings(all...)
		after, e := judge.Reverse(example(t), l, ruling(s))
		want(t, "the error of Reverse", e, api.OK)
		want(t, "Reverse "+s, shown(after), slices.Delete(slices.Clone(all), at, at+1))
		same(t, "the list before", l, rulings(all...))
	}
	for _, s := range []string{"0 0 life 0 6", "1 1 passed 0 0", "2 0 hit 2 0", "2 0 error 1 8", "2 2 error 2 8", "2 0 sacrifice 0 0"} {
		after, e := judge.Reverse(example(t), rulings(all...), ruling(s))
		want(t, "Reverse "+s, []any{len(after), e}, []any{0, api.ErrNone})
	}
}

// wrongRulings returns judgments that are wrong for the game G, with their errors.
func wrongRulings() []struct {
	j   api.Judgment
	err api.Errno
} {
	type row = struct {
		j   api.Judgment
		err api.Errno
	}
	return []row{
		{ruling("3 0 hit 1 0"), api.ErrUnknown},
		{ruling("-1 0 hit 1 0"), api.ErrUnknown},
		{ruling("0 0 walk 1 0"), api.ErrKind},
		{withRule("0 0 hit 1 0", 2), api.ErrRule},
		{ruling("0 3 hit 1 0"), api.ErrNone},
		{ruling("0 0 hit 3 0"), api.ErrJudge},
		{ruling("1 1 steal 0 0"), api.ErrJudge},
	}
}

func TestSetAndReverseWrong(t *testing.T) {
	expect := func(what string, plays []api.Play, l []api.Judgment, j api.Judgment, err api.Errno) {
		t.Helper()
		after, e := judge.Set(plays, l, j)
		want(t, "Set: "+what, []any{len(after), e}, []any{0, err})
		after, e = judge.Reverse(plays, l, j)
		want(t, "Reverse: "+what, []any{len(after), e}, []any{0, err})
	}
	for what, row := range wrongGames(t) {
		expect(what, row.plays, rulings("9 9 walk 0 0"), ruling("9 9 walk 0 0"), row.err)
	}
	for _, row := range wrongLists() {
		expect("a wrong list", example(t), row.l, ruling("-1 9 walk 0 0"), row.err)
	}
	for i, row := range wrongRulings() {
		expect(fmt.Sprintf("the wrong judgment %d", i), example(t), rulings("0 0 hit 1 0"), row.j, row.err)
	}
}

func TestSetAtItsLimit(t *testing.T) {
	g := crowd(t)
	full, _ := judge.Complete(g, blamed(t, 761, 7))
	want(t, "a full list", len(full), api.MaxJudgments)
	last := ruling("255 1 error 1 1")
	for what, row := range map[string]struct {
		j   api.Judgment
		n   int
		err api.Errno
	}{
		"one more":               {last, 0, api.ErrMany},
		"a life, one more":       {ruling("255 1 life 0 1"), 0, api.ErrMany},
		"one that is there":      {full[5], api.MaxJudgments, api.OK},
		"one instead of another": {ruling("255 2 life 0 1"), api.MaxJudgments, api.OK},
		"one instead of two":     {ruling("1 0 hit 1 0"), api.MaxJudgments - 1, api.OK},
		"one that does not fit":  {ruling("255 1 hit 1 0"), 0, api.ErrJudge},
	} {
		l, e := judge.Set(g, full, row.j)
		want(t, "Set: "+what, []any{len(l), e}, []any{row.n, row.err})
	}
	less, _ := judge.Reverse(g, full, full[0])
	l, e := judge.Set(g, less, last)
	want(t, "the list is full again", []any{len(l), e}, []any{api.MaxJudgments, api.OK})
}

func TestReplay(t *testing.T) {
	set := func(s string) judge.Act { return judge.Act{Set: true, Judgment: ruling(s)} }
	reverse := func(s string) judge.Act { return judge.Act{Judgment: ruling(s)} }
	for what, row := range map[string]struct {
		acts []judge.Act
		l    []string
		at   int
		err  api.Errno
	}{
		"nothing":                     {nil, nil, -1, api.OK},
		"one":                         {[]judge.Act{set("1 1 wild 0 0")}, []string{"1 1 wild 0 0"}, -1, api.OK},
		"in any order":                {[]judge.Act{set("2 0 hit 2 0"), set("0 0 hit 1 0"), set("1 1 wild 0 0")}, []string{"0 0 hit 1 0", "1 1 wild 0 0", "2 0 hit 2 0"}, -1, api.OK},
		"one after another":           {[]judge.Act{set("0 0 hit 1 0"), set("0 0 life 0 6"), set("0 0 choice 0 0")}, []string{"0 0 choice 0 0"}, -1, api.OK},
		"set twice, reversed once":    {[]judge.Act{set("0 0 hit 1 0"), set("0 0 hit 1 0"), reverse("0 0 hit 1 0")}, nil, -1, api.OK},
		"set, reversed and set":       {[]judge.Act{set("0 0 hit 1 0"), reverse("0 0 hit 1 0"), set("0 0 hit 1 0")}, []string{"0 0 hit 1 0"}, -1, api.OK},
		"reversed without being set":  {[]judge.Act{reverse("0 0 hit 1 0")}, nil, 0, api.ErrNone},
		"reversed twice":              {[]judge.Act{set("0 0 hit 1 0"), reverse("0 0 hit 1 0"), reverse("0 0 hit 1 0")}, nil, 2, api.ErrNone},
		"reversed when it was taken":  {[]judge.Act{set("0 0 hit 1 0"), set("0 0 life 0 6"), reverse("0 0 hit 1 0")}, nil, 2, api.ErrNone},
		"what does not fit is set":    {[]judge.Act{set("0 0 hit 1 0"), set("1 1 steal 0 0")}, nil, 1, api.ErrJudge},
		"what does not fit, reversed": {[]judge.Act{reverse("1 1 steal 0 0")}, nil, 0, api.ErrJudge},
		"no play":                     {[]judge.Act{set("3 0 hit 1 0")}, nil, 0, api.ErrUnknown},
		"no kind":                     {[]judge.Act{{}}, nil, 0, api.ErrKind},
		"the first error":             {[]judge.Act{set("1 1 wild 0 0"), set("1 0 wild 0 0"), set("9 0 hit 1 0")}, nil, 1, api.ErrNone},
		"many acts":                   {slices.Repeat([]judge.Act{set("0 0 hit 1 0"), set("0 0 life 0 6")}, judge.MaxActs/2), []string{"0 0 life 0 6"}, -1, api.OK},
		"the last one is wrong":       {append(slices.Repeat([]judge.Act{set("0 0 hit 1 0")}, judge.MaxActs-1), set("0 0 hit 2 0")), nil, judge.MaxActs - 1, api.ErrJudge},
		"too many acts":               {make([]judge.Act, judge.MaxActs+1), nil, -1, api.ErrMany},
	} {
		l, at, e := judge.Replay(example(t), row.acts)
		want(t, "Replay: "+what, []any{at, e}, []any{row.at, row.err})
		want(t, "the list of Replay: "+what, shown(l), row.l)
	}
	for what, row := range wrongGames(t) {
		l, at, e := judge.Replay(row.plays, make([]judge.Act, judge.MaxActs+1))
		want(t, "Replay: "+what, []any{len(l), at, e}, []any{0, -1, row.err})
	}
	for i, row := range wrongRulings() {
		l, at, e := judge.Replay(example(t), []judge.Act{set("0 0 hit 1 0"), {Set: true, Judgment: row.j}})
		want(t, fmt.Sprintf("Replay of the wrong judgment %d", i), []any{len(l), at, e}, []any{0, 1, row.err})
	}
}

func TestReplayOfManyJudgments(t *testing.T) {
	g := crowd(t)
	full, _ := judge.Complete(g, blamed(t, 762, 6))
	var list []judge.Act
	for _, j := range slices.Backward(full) {
		list = append(list, judge.Act{Set: true, Judgment: j})
	}
	l, at, e := judge.Replay(g, list)
	want(t, "Replay of the greatest list", []any{at, e}, []any{-1, api.OK})
	same(t, "the greatest list", l, full)
}

func TestDifferences(t *testing.T) {
	long := make([]api.Judgment, 3000)
	for at := range long {
		long[at].Play = 2999 - at
	}
	for what, row := range map[string]struct {
		a, b  []api.Judgment
		plays []int
	}{
		"nothing":                  {nil, nil, nil},
		"the same":                 {rulings("0 0 hit 1 0", "1 1 wild 0 0"), rulings("0 0 hit 1 0", "1 1 wild 0 0"), nil},
		"one is empty":             {rulings("2 0 hit 1 0", "1 1 wild 0 0", "2 2 life 0 8"), nil, []int{1, 2}},
		"another kind":             {rulings("0 0 hit 1 0", "1 1 wild 0 0"), rulings("0 0 hit 1 0", "1 1 passed 0 0"), []int{1}},
		"another base":             {rulings("0 0 hit 1 0"), rulings("0 0 hit 2 0"), []int{0}},
		"another fielder":          {rulings("0 0 life 0 6"), rulings("0 0 life 0 5"), []int{0}},
		"another runner":           {rulings("0 0 wild 0 0"), rulings("0 1 wild 0 0"), []int{0}},
		"another rule":             {rulings("0 0 wild 0 0"), []api.Judgment{withRule("0 0 wild 0 0", 6)}, []int{0}},
		"one more":                 {rulings("0 0 hit 1 0", "0 0 error 1 6"), rulings("0 0 hit 1 0"), []int{0}},
		"one twice":                {rulings("0 0 hit 1 0", "0 0 hit 1 0"), rulings("0 0 hit 1 0"), []int{0}},
		"another order":            {rulings("0 0 hit 1 0", "0 0 error 1 6"), rulings("0 0 error 1 6", "0 0 hit 1 0"), []int{0}},
		"another order of plays":   {rulings("0 0 hit 1 0", "1 1 wild 0 0"), rulings("1 1 wild 0 0", "0 0 hit 1 0"), nil},
		"plays of one list alone":  {rulings("7 0 hit 1 0", "3 0 hit 1 0"), rulings("5 0 hit 1 0", "3 0 hit 1 0"), []int{5, 7}},
		"plays that do not exist":  {rulings("-1 0 walk 1 0", "1000000 0 walk 1 0"), rulings("-5 9 walk 1 0"), []int{-5, -1, 1000000}},
		"long lists":               {long, long[:2999], []int{0}},
		"long lists, in two parts": {append(slices.Clone(long[1500:]), long[:1500]...), long, nil},
	} {
		want(t, "Differences: "+what, judge.Differences(row.a, row.b), row.plays)
		want(t, "Differences the other way: "+what, judge.Differences(row.b, row.a), row.plays)
	}
}
