package earned_test

import (
	"math"
	"slices"
	"testing"

	"dugout/api"
	"dugout/earned"
)

func TestDoubts(t *testing.T) {
	for what, row := range map[string]struct {
		plays     string
		judgments string
		from      int
		doubts    []earned.Extra
	}{
		"no plays":                     {"", "", 0, nil},
		"without misplays":             {loaded + allGo + "X X 3-4b 2-4b 0-3b", "", 0, nil},
		"the misplay is none":          {one + away, "1 1 passed 0 0", 0, nil},
		"three bases":                  {one + away + "X X 2-4b 0-1b", "1 1 passed 0 0", 0, []earned.Extra{{2, 1, 3}}},
		"from behind the misplay":      {one + away + "X X 2-4b 0-1b", "1 1 passed 0 0", 2, nil},
		"in each play":                 {one + away + "- - 2-3s;B - 3-4p;" + gone, "1 1 passed 0 0", 0, []earned.Extra{{2, 1, 2}, {3, 1, 3}}},
		"he has no move":               {one + away + one, "1 1 passed 0 0", 0, nil},
		"he lags behind no more":       {one + away + one + "X X 2-3b 1-2b 0-1b", "1 1 passed 0 0", 0, nil},
		"he is put out":                {one + away + "- - 2x3g:25", "1 1 passed 0 0", 0, nil},
		"a life":                       {one + away + "X X 2-3b:5 0-1b", "1 1 passed 0 0;2 2 life 0 5", 0, nil},
		"who is out already":           {one + away + "X X 2-3b:5 0-1b", docLife, 0, nil},
		"an error":                     {one + away + "X X 2-4b:8 0-1b", "1 1 passed 0 0;2 2 error 3 8", 0, []earned.Extra{{2, 1, 2}}},
		"an error back to his base":    {one + away + "X X 2-4b:8 0-1b", "1 1 passed 0 0;2 2 error 2 8", 0, []earned.Extra{{2, 1, 1}}},
		"a passed ball":                {one + away + "B - 2-3p:2", "1 1 passed 0 0;2 2 passed 0 0", 0, []earned.Extra{{2, 1, 1}}},
		"he is pushed as well":         {one + away + "X X 2-3b 0-1b", "1 1 passed 0 0", 0, []earned.Extra{{2, 1, 2}}},
		"three runners":                {loaded + allGo + "B - 3-4p 2-3p;" + one, "3 3 passed 0 0", 0, []earned.Extra{{4, 2, 2}, {4, 3, 2}}},
		"one of them does not lag":     {loaded + "B - 3-4p:2;X X 2-4b 1-3b 0-1b", "3 3 passed 0 0", 0, nil},
		"with the third out":           {gone + gone + one + away + "X X 2-4b 0x2g:84", "3 1 passed 0 0", 0, []earned.Extra{{4, 3, 3}}},
		"behind the end":               {gone + gone + one + away + "X X 2-3b 0-1b:6;X X 3-4b 1-2b 0-1b", "3 1 passed 0 0;4 0 life 0 6", 0, []earned.Extra{{4, 3, 2}}},
		"without the effect of doubts": {one + away + "- - 2-3s;- - 3-4s", "1 1 passed 0 0", 0, []earned.Extra{{2, 1, 2}, {3, 1, 3}}},
	} {
		doubts, e := earned.Doubts(inning(t, row.plays, row.judgments), row.from)
		want(t, "the error of Doubts: "+what, e, api.OK)
		want(t, "Doubts: "+what, doubts, row.doubts)
	}
	for _, from := range []int{-1, 6, 1 << 62} {
		doubts, e := earned.Doubts(example(t), from)
		want(t, "Doubts", []any{len(doubts), e}, []any{0, api.ErrRange})
	}
}

func TestReckon(t *testing.T) {
	scored := one + away + "- - 2-3s;B -;X X 3-4b 0-1b"
	tired := three + "B - 3-4p:2;" + gone + "X X 0-3b;" + gone
	for what, row := range map[string]struct {
		plays     string
		judgments string
		from      int
		extras    []earned.Extra
		runs      []int
	}{
		"no plays":                          {"", "", 0, nil, nil},
		"no extras":                         {scored, "1 1 passed 0 0", 0, nil, nil},
		"no misplays":                       {scored, "", 0, nil, []int{1}},
		"from behind the misplay":           {scored, "1 1 passed 0 0", 2, nil, []int{1}},
		"he stays at second base":           {scored, "1 1 passed 0 0", 0, []earned.Extra{{2, 1, 1}}, nil},
		"he comes to third base":            {scored, "1 1 passed 0 0", 0, []earned.Extra{{2, 1, 2}}, []int{1}},
		"not beyond the clean move":         {scored, "1 1 passed 0 0", 0, []earned.Extra{{2, 1, 3}}, []int{1}},
		"no further than the clean move":    {one + away + "- - 2-3s;- - 3-4s:2", "1 1 passed 0 0;3 3 error 3 2", 0, []earned.Extra{{2, 1, 3}, {3, 1, 3}}, nil},
		"by a base in each play":            {scored, "1 1 passed 0 0", 0, []earned.Extra{{2, 1, 1}, {4, 1, 1}}, nil},
		"a base and then two":               {scored, "1 1 passed 0 0", 0, []earned.Extra{{2, 1, 1}, {4, 1, 2}}, []int{1}},
		"all at last":                       {scored, "1 1 passed 0 0", 0, []earned.Extra{{4, 1, 3}}, []int{1}},
		"nothing":                           {scored, "1 1 passed 0 0", 0, []earned.Extra{{2, 1, 0}, {4, 1, 0}}, nil},
		"before he lags behind":             {scored, "1 1 passed 0 0", 0, []earned.Extra{{0, 1, 3}, {1, 1, 3}}, nil},
		"a play without a move":             {scored, "1 1 passed 0 0", 0, []earned.Extra{{3, 1, 3}}, nil},
		"a play before it":                  {scored, "1 1 passed 0 0", 4, []earned.Extra{{2, 1, 2}}, []int{1}},
		"of another runner":                 {scored, "1 1 passed 0 0", 0, []earned.Extra{{2, 2, 3}, {4, 2, 3}}, nil},
		"of two runners":                    {scored, "1 1 passed 0 0", 0, []earned.Extra{{4, 1, 3}, {4, 2, 3}}, []int{1}},
		"of who is out":                     {scored, docLife, 0, []earned.Extra{{2, 1, 3}, {4, 1, 3}}, nil},
		"of who should be out":              {one + away + "X X 2-4b:8 0-1b", "1 1 passed 0 0;2 2 life 0 8", 0, []earned.Extra{{2, 1, 3}}, nil},
		"of who has no move":                {tired, "1 3 passed 0 0", 0, []earned.Extra{{1, 1, 1}, {3, 1, 3}}, []int{1}},
		"of who does not take part":         {homer + one, "", 1, []earned.Extra{{1, 1, 3}}, nil},
		"he stops at third base at the end": {gone + gone + one + away + "X X 2-4b 0-1b:6", "3 1 passed 0 0;4 0 life 0 6", 0, []earned.Extra{{4, 3, 3}}, nil},
		"he comes home with the third out":  {gone + gone + one + away + "X X 2-4b 0x2g:84", "3 1 passed 0 0", 0, []earned.Extra{{4, 3, 3}}, []int{3}},
		"he pushes the others on":           {loaded + allGo + "B - 3-4p 2-3p", "3 3 passed 0 0", 0, []earned.Extra{{4, 3, 1}}, []int{1}},
	} {
		h := inning(t, row.plays, row.judgments)
		runs, e := earned.Reckon(h, row.from, row.extras)
		want(t, "the error of Reckon: "+what, e, api.OK)
		want(t, "Reckon: "+what, runs, row.runs)
	}
}

func TestReckonWrong(t *testing.T) {
	x := func(list ...earned.Extra) []earned.Extra { return list }
	for what, row := range map[string]struct {
		extras []earned.Extra
		err    api.Errno
	}{
		"too many":                      {make([]earned.Extra, api.MaxList+1), api.ErrMany},
		"as many as may be":             {make([]earned.Extra, api.MaxList), api.ErrUnknown},
		"a play before":                 {x(earned.Extra{-1, 9, 4}), api.ErrRange},
		"a play behind":                 {x(earned.Extra{5, 9, 1}), api.ErrRange},
		"too many bases":                {x(earned.Extra{0, 9, 4}), api.ErrRange},
		"too few bases":                 {x(earned.Extra{0, 9, -1}), api.ErrRange},
		"no runner":                     {x(earned.Extra{0, 0, 0}), api.ErrUnknown},
		"a runner below":                {x(earned.Extra{0, -1, 0}), api.ErrUnknown},
		"a runner above":                {x(earned.Extra{0, 6, 0}), api.ErrUnknown},
		"great numbers":                 {x(earned.Extra{0, math.MaxInt, 3}), api.ErrUnknown},
		"a great play":                  {x(earned.Extra{math.MaxInt, 1, 3}), api.ErrRange},
		"a wrong order of plays":        {x(earned.Extra{2, 1, 0}, earned.Extra{1, 2, 0}), api.ErrOrder},
		"a wrong order of runners":      {x(earned.Extra{1, 2, 0}, earned.Extra{1, 1, 0}), api.ErrOrder},
		"the same twice":                {x(earned.Extra{1, 2, 0}, earned.Extra{1, 2, 0}), api.ErrOrder},
		"other bases":                   {x(earned.Extra{1, 2, 0}, earned.Extra{1, 2, 1}), api.ErrOrder},
		"an order, and no runner":       {x(earned.Extra{1, 2, 0}, earned.Extra{0, 6, 0}), api.ErrUnknown},
		"an order, and another error":   {x(earned.Extra{1, 2, 0}, earned.Extra{1, 2, 1}, earned.Extra{-1, 0, 0}), api.ErrOrder},
		"the last play and runner":      {x(earned.Extra{0, 5, 3}, earned.Extra{4, 5, 3}), api.OK},
		"a runner before he comes up":   {x(earned.Extra{0, 1, 3}, earned.Extra{0, 5, 3}), api.OK},
		"a smaller runner of a play":    {x(earned.Extra{0, 5, 3}, earned.Extra{1, 1, 3}), api.OK},
		"fewer bases in a greater play": {x(earned.Extra{0, 5, 3}, earned.Extra{1, 5, 0}), api.OK},
	} {
		runs, e := earned.Reckon(example(t), 0, row.extras)
		want(t, "Reckon: "+what, e, row.err)
		if e != api.OK {
			want(t, "the runs of Reckon: "+what, len(runs), 0)
		}
		_, e = earned.Reckon(example(t), 6, row.extras)
		want(t, "Reckon from behind: "+what, e, api.ErrRange)
	}
	h := long(t, 0)
	var l []earned.Extra
	for at := range 128 {
		l = append(l, earned.Extra{at, 1, 1}, earned.Extra{at, 2, 1})
	}
	runs, e := earned.Reckon(h, 0, l)
	want(t, "Reckon with the longest list", []any{len(runs), e}, []any{253, api.OK})
	_, e = earned.Reckon(h, 0, append(slices.Clone(l), earned.Extra{200, 1, 1}))
	want(t, "Reckon with a longer list", e, api.ErrMany)
	_, e = earned.Reckon(earned.Half{}, 0, []earned.Extra{{0, 1, 0}})
	want(t, "Reckon of no plays", e, api.ErrRange)
}
