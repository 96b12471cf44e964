package credit_test

import (
	"testing"

	"dugout/api"
	"dugout/credit"
	"dugout/judge"
)

func TestChanged(t *testing.T) {
	g := example(t)
	for what, row := range map[string]struct {
		a, b  []string
		plays []int
	}{
		"nothing":                      {nil, nil, nil},
		"what is missing":              {nil, []string{"0 0 hit 1 0", "1 1 wild 0 0", "2 0 hit 2 0"}, nil},
		"a life":                       {nil, []string{"0 0 life 0 6"}, []int{0}},
		"a choice":                     {nil, []string{"0 0 choice 0 0"}, []int{0}},
		"another fielder":              {[]string{"2 2 error 3 8"}, []string{"2 2 error 3 2"}, []int{2}},
		"another base of an error":     {[]string{"2 2 error 3 8"}, []string{"2 2 error 2 8"}, nil},
		"another base of a hit":        {[]string{"2 0 hit 1 0"}, nil, []int{2}},
		"a passed ball":                {[]string{"1 1 passed 0 0"}, []string{"1 1 wild 0 0"}, []int{1}},
		"the same in both lists":       {[]string{"0 0 life 0 6"}, []string{"0 0 life 0 6"}, nil},
		"all plays":                    {[]string{"0 0 life 0 6", "1 1 passed 0 0", "2 0 hit 1 0"}, nil, []int{0, 1, 2}},
		"some in one, some in another": {[]string{"2 0 choice 0 0"}, []string{"1 1 passed 0 0"}, []int{1, 2}},
	} {
		for _, lists := range [][2][]string{{row.a, row.b}, {row.b, row.a}} {
			got, e := credit.Changed(g, rulings(lists[0]...), rulings(lists[1]...))
			want(t, "the error of Changed: "+what, e, api.OK)
			want(t, "Changed: "+what, got, row.plays)
		}
	}
	got, e := credit.Changed(nil, nil, nil)
	want(t, "Changed of no plays", []any{len(got), e}, []any{0, api.OK})
}

func TestEffect(t *testing.T) {
	g := example(t)
	for what, row := range map[string]struct {
		l      []string
		j      string
		totals []string
	}{
		"a life":                       {nil, "0 0 life 0 6", []string{"0 h 1 0 -1", "1 e 0 6 1", "1 ha 0 1 -1"}},
		"a choice":                     {nil, "0 0 choice 0 0", []string{"0 h 1 0 -1", "1 ha 0 1 -1"}},
		"a hit that is missing":        {nil, "0 0 hit 1 0", nil},
		"a hit that is there":          {[]string{"0 0 hit 1 0"}, "0 0 hit 1 0", nil},
		"a hit instead of a life":      {[]string{"0 0 life 0 6"}, "0 0 hit 1 0", []string{"0 h 1 0 1", "1 e 0 6 -1", "1 ha 0 1 1"}},
		"a passed ball":                {nil, "1 1 passed 0 0", []string{"1 pb 0 2 1", "1 wp 0 1 -1"}},
		"a base less":                  {nil, "2 0 hit 1 0", []string{"0 d 2 0 -1"}},
		"an error":                     {nil, "2 0 error 1 8", []string{"0 d 2 0 -1", "1 e 0 8 1"}},
		"an error that takes a hit":    {[]string{"2 0 hit 2 0"}, "2 0 error 1 2", []string{"0 d 2 0 -1", "1 e 0 2 1"}},
		"an error about the run":       {nil, "2 2 error 3 8", []string{"0 rbi 2 0 -1", "1 e 0 8 1"}},
		"another fielder":              {[]string{"2 2 error 3 8"}, "2 2 error 3 2", []string{"1 e 0 2 1", "1 e 0 8 -1"}},
		"another base alone":           {[]string{"2 2 error 3 8"}, "2 2 error 2 8", nil},
		"a sacrifice":                  {nil, "2 0 sacrifice 0 0", []string{"0 ab 2 0 -1", "0 h 2 0 -1", "0 d 2 0 -1", "0 sac 2 0 1", "1 ha 0 1 -1"}},
		"a hit instead of a sacrifice": {[]string{"2 0 choice 0 0", "2 0 sacrifice 0 0"}, "2 0 hit 2 0", []string{"0 ab 2 0 1", "0 h 2 0 1", "0 d 2 0 1", "0 sac 2 0 -1", "1 ha 0 1 1"}},
	} {
		got, e := credit.Effect(g, rulings(row.l...), ruling(row.j))
		want(t, "the error of Effect: "+what, e, api.OK)
		want(t, "Effect: "+what, got, totals(row.totals...))
	}
}

func TestRests(t *testing.T) {
	g := example(t)
	two := acts(t, "X X 0-1b", "X X 1-4b:89 0-2b:8", "X X 2-4b:8 0-1b:8", "C - 1-2s")
	pitches := acts(t, "X X 0-1b", "X X 1-2b 0-1b", "B - 2-3p 1-2p")
	for what, row := range map[string]struct {
		plays   []api.Play
		l       []string
		j       string
		credits []string
	}{
		"a life":                    {g, []string{"0 0 life 0 6"}, "0 0 life 0 6", []string{"0 1 e 0 6 1"}},
		"a hit that would be there": {g, []string{"0 0 hit 1 0"}, "0 0 hit 1 0", nil},
		"a shorter hit":             {g, []string{"2 0 hit 1 0"}, "2 0 hit 1 0", nil},
		"a hit behind a sacrifice":  {g, []string{"2 0 sacrifice 0 0"}, "2 0 sacrifice 0 0", []string{"2 0 sac 2 0 1"}},
		"a passed ball":             {g, []string{"0 0 life 0 6", "1 1 passed 0 0", "2 0 hit 1 0"}, "1 1 passed 0 0", []string{"1 1 pb 0 2 1"}},
		"a wild pitch":              {g, []string{"1 1 wild 0 0"}, "1 1 wild 0 0", nil},
		"a choice":                  {g, []string{"2 0 choice 0 0"}, "2 0 choice 0 0", nil},
		"an error":                  {g, []string{"2 0 error 1 8"}, "2 0 error 1 8", []string{"2 1 e 0 8 1"}},
		"another number":            {two, []string{"1 1 error 3 8", "1 0 error 1 8"}, "1 1 error 3 8", []string{"1 1 e 0 8 2"}},
		"another number, the other": {two, []string{"1 1 error 3 8", "1 0 error 1 8"}, "1 0 error 1 8", []string{"1 1 e 0 8 2"}},
		"two fielders":              {two, []string{"1 1 error 3 9", "1 0 error 1 8"}, "1 1 error 3 9", []string{"1 1 e 0 9 1"}},
		"an error that costs a run": {two, []string{"2 2 error 3 8"}, "2 2 error 3 8", []string{"2 1 e 0 8 1"}},
		"a life that costs a hit":   {two, []string{"2 2 error 3 8", "2 0 life 0 8"}, "2 0 life 0 8", []string{"2 1 e 0 8 2"}},
		"an idle advance":           {two, []string{"3 1 idle 0 0"}, "3 1 idle 0 0", nil},
		"a hit kept by an error":    {two, []string{"1 0 hit 1 0", "1 0 error 1 8"}, "1 0 hit 1 0", nil},
		"one of two passed balls":   {pitches, []string{"2 2 passed 0 0", "2 1 passed 0 0"}, "2 2 passed 0 0", nil},
		"a life beside a sacrifice": {g, []string{"2 0 life 0 8", "2 0 sacrifice 0 0"}, "2 0 life 0 8", []string{"2 1 e 0 8 1"}},
		"a sacrifice beside a life": {g, []string{"2 0 life 0 8", "2 0 sacrifice 0 0"}, "2 0 sacrifice 0 0", []string{"2 0 sac 2 0 1"}},
		"the only passed ball":      {pitches, []string{"2 2 passed 0 0"}, "2 2 passed 0 0", []string{"2 1 pb 0 2 1"}},
	} {
		got, e := credit.Rests(row.plays, rulings(row.l...), ruling(row.j))
		want(t, "the error of Rests: "+what, e, api.OK)
		want(t, "Rests: "+what, got, gifts(row.credits...))
	}
}

func TestJudgmentsOfNoGame(t *testing.T) {
	expect := func(what string, plays []api.Play, l []api.Judgment, j api.Judgment, err api.Errno) {
		t.Helper()
		changed, e := credit.Changed(plays, l, make([]api.Judgment, api.MaxJudgments+1))
		want(t, "Changed: "+what, []any{len(changed), e}, []any{0, err})
		effect, e := credit.Effect(plays, l, j)
		want(t, "Effect: "+what, []any{len(effect), e}, []any{0, err})
		rests, e := credit.Rests(plays, l, j)
		want(t, "Rests: "+what, []any{len(rests), e}, []any{0, err})
	}
	for what, row := range wrongGames(t) {
		expect(what, row.plays, rulings("9 9 walk 0 0"), ruling("9 9 walk 0 0"), row.err)
	}
	for what, row := range wrongLists() {
		expect(what, example(t), row.l, ruling("-1 9 walk 0 0"), row.err)
		changed, e := credit.Changed(example(t), rulings("0 0 hit 1 0"), row.l)
		want(t, "Changed to "+what, []any{len(changed), e}, []any{0, row.err})
	}
}

func TestJudgmentsThatAreWrong(t *testing.T) {
	l := rulings("0 0 hit 1 0")
	for what, row := range map[string]struct {
		j   api.Judgment
		err api.Errno
	}{
		"no play":                {ruling("3 0 hit 1 0"), api.ErrUnknown},
		"a negative play":        {ruling("-1 0 hit 1 0"), api.ErrUnknown},
		"no kind":                {ruling("0 0 walk 1 0"), api.ErrKind},
		"another rule":           {api.Judgment{Kind: "hit", Base: 1, Rule: 2}, api.ErrRule},
		"no move":                {ruling("0 3 hit 1 0"), api.ErrNone},
		"a base that is too far": {ruling("0 0 hit 2 0"), api.ErrJudge},
		"a wrong way":            {ruling("1 1 steal 0 0"), api.ErrJudge},
	} {
		effect, e := credit.Effect(example(t), l, row.j)
		want(t, "Effect: "+what, []any{len(effect), e}, []any{0, row.err})
		rests, e := credit.Rests(example(t), l, row.j)
		want(t, "Rests: "+what, []any{len(rests), e}, []any{0, row.err})
	}
	for _, s := range []string{"0 0 life 0 6", "1 1 wild 0 0", "2 0 hit 2 0", "2 2 error 3 8"} {
		rests, e := credit.Rests(example(t), l, ruling(s))
		want(t, "Rests of "+s+", which is not in the list", []any{len(rests), e}, []any{0, api.ErrNone})
	}
}

// The error of a complete list that has too many comes after the errors of all arguments.
func TestJudgmentsAtTheLimit(t *testing.T) {
	g := crowd(t)
	full, more := blamed(762, 6), blamed(762, 7)
	changed, e := credit.Changed(g, full, nil)
	want(t, "Changed", []any{len(changed), e}, []any{255, api.OK})
	changed, e = credit.Changed(g, full, more)
	want(t, "Changed to too many", []any{len(changed), e}, []any{0, api.ErrMany})
	changed, e = credit.Changed(g, more, full)
	want(t, "Changed from too many", []any{len(changed), e}, []any{0, api.ErrMany})
	changed, e = credit.Changed(g, more, rulings("256 0 hit 1 0"))
	want(t, "Changed from too many to no list", []any{len(changed), e}, []any{0, api.ErrUnknown})

	last := ruling("255 0 sacrifice 0 0")
	effect, e := credit.Effect(g, full, full[0])
	want(t, "Effect", []any{len(effect), e}, []any{0, api.OK})
	effect, e = credit.Effect(g, full, last)
	want(t, "Effect, then too many", []any{len(effect), e}, []any{0, api.ErrMany})
	effect, e = credit.Effect(g, more, full[0])
	want(t, "Effect of too many", []any{len(effect), e}, []any{0, api.ErrMany})
	effect, e = credit.Effect(g, more, ruling("256 0 hit 1 0"))
	want(t, "Effect of too many, and no play", []any{len(effect), e}, []any{0, api.ErrUnknown})

	rests, e := credit.Rests(g, full, full[len(full)-1])
	want(t, "Rests", []any{shown(rests), e}, []any{[]string{"1 e 0 1 3"}, api.OK})
	rests, e = credit.Rests(g, more, more[0])
	want(t, "Rests of too many", []any{len(rests), e}, []any{0, api.ErrMany})
	rests, e = credit.Rests(g, more, last)
	want(t, "Rests of too many, not in the list", []any{len(rests), e}, []any{0, api.ErrNone})
	rests, e = credit.Rests(g, more, ruling("255 0 life 0 9"))
	want(t, "Rests of too many, and what does not fit", []any{len(rests), e}, []any{0, api.ErrJudge})
}

// The error of a judgment is that of Set: a list that is full has no place for another one, which is told before it is told that the list does not have it.
func TestRestsOnAFullList(t *testing.T) {
	g := crowd(t)
	full, _ := judge.Complete(g, blamed(761, 7))
	want(t, "a full list", len(full), api.MaxJudgments)
	for what, row := range map[string]struct {
		j   api.Judgment
		err api.Errno
	}{
		"one more":               {ruling("255 1 error 1 1"), api.ErrMany},
		"one instead of another": {ruling("255 2 life 0 1"), api.ErrNone},
		"one that is there":      {full[0], api.OK},
		"one that does not fit":  {ruling("255 1 hit 1 0"), api.ErrJudge},
	} {
		rests, e := credit.Rests(g, full, row.j)
		want(t, "the error of Rests on a full list: "+what, e, row.err)
		if e != api.OK {
			want(t, "Rests on a full list: "+what, len(rests), 0)
		}
	}
	effect, e := credit.Effect(g, full, ruling("255 1 error 1 1"))
	want(t, "Effect on a full list", []any{len(effect), e}, []any{0, api.ErrMany})
}
