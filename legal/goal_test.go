package legal_test

import (
	"math"
	"slices"
	"testing"

	"dugout/api"
	"dugout/legal"
	"dugout/play"
	"dugout/rule"
)

func TestCheckGoal(t *testing.T) {
	for what, x := range map[string]struct {
		goal legal.Goal
		err  api.Errno
	}{
		"nothing":         {legal.Goal{}, api.OK},
		"the most":        {legal.Goal{Outs: 100, Runs: 100, Turns: 100, Half: true}, api.OK},
		"outs -1":         {legal.Goal{Outs: -1}, api.ErrRange},
		"outs 101":        {legal.Goal{Outs: 101}, api.ErrRange},
		"runs -1":         {legal.Goal{Runs: -1}, api.ErrRange},
		"runs 101":        {legal.Goal{Runs: 101}, api.ErrRange},
		"turns -1":        {legal.Goal{Turns: -1}, api.ErrRange},
		"turns 101":       {legal.Goal{Turns: 101}, api.ErrRange},
		"without effect":  {legal.Goal{Outs: 101, Half: true}, api.ErrRange},
		"the least turns": {legal.Goal{Turns: math.MinInt, Half: true}, api.ErrRange},
		"the most runs":   {legal.Goal{Runs: math.MaxInt}, api.ErrRange},
	} {
		want(t, what, legal.CheckGoal(x.goal), x.err)
	}
}

func TestMeets(t *testing.T) {
	start := "1t 0 0-0 000 11 0:0 on"
	later := "2b 1 3-2 060 37 4:6 on"
	for what, x := range map[string]struct {
		from, state string
		goal        legal.Goal
		meets       bool
	}{
		"itself":                            {start, start, legal.Goal{}, true},
		"itself, with the half ended":       {start, start, legal.Goal{Half: true}, false},
		"another count":                     {start, "1t 0 3-2 000 11 0:0 on", legal.Goal{}, true},
		"a run":                             {start, "1t 0 0-0 000 21 1:0 on", legal.Goal{Runs: 1}, true},
		"more runs":                         {start, "1t 0 0-0 000 21 3:0 on", legal.Goal{Runs: 2}, true},
		"too few runs":                      {start, "1t 0 0-0 000 21 1:0 on", legal.Goal{Runs: 2}, false},
		"a run of the other side":           {start, "1t 0 0-0 000 21 0:1 on", legal.Goal{Runs: 1}, false},
		"fewer runs than before":            {later, "2b 1 3-2 060 37 4:5 on", legal.Goal{}, false},
		"fewer runs, and another half":      {later, "3t 0 0-0 000 37 4:5 on", legal.Goal{Half: true}, false},
		"a run of side 1":                   {later, "2b 1 3-2 060 37 4:7 on", legal.Goal{Runs: 1}, true},
		"a run of side 0":                   {later, "2b 1 3-2 060 37 5:6 on", legal.Goal{Runs: 1}, false},
		"an out":                            {start, "1t 1 0-0 000 21 0:0 on", legal.Goal{Outs: 1}, true},
		"more outs":                         {start, "1t 2 0-0 000 31 0:0 on", legal.Goal{Outs: 1}, true},
		"too few outs":                      {start, "1t 1 0-0 000 21 0:0 on", legal.Goal{Outs: 2}, false},
		"outs from outs on":                 {later, "2b 2 0-0 000 38 4:6 on", legal.Goal{Outs: 1}, true},
		"too few outs from outs on":         {later, "2b 2 0-0 000 38 4:6 on", legal.Goal{Outs: 2}, false},
		"fewer outs than before":            {later, "2b 0 0-0 000 37 4:6 on", legal.Goal{}, false},
		"three outs":                        {start, "1b 0 0-0 000 41 0:0 on", legal.Goal{Outs: 3}, false},
		"a turn":                            {start, "1t 1 0-0 000 21 0:0 on", legal.Goal{Turns: 1}, true},
		"too few turns":                     {start, "1t 1 0-0 000 21 0:0 on", legal.Goal{Turns: 2}, false},
		"the other side's turns":            {start, "1t 0 0-0 000 19 0:0 on", legal.Goal{Turns: 1}, false},
		"turns past 9":                      {later, "2b 1 0-0 000 32 4:6 on", legal.Goal{Turns: 4}, true},
		"too few turns past 9":              {later, "2b 1 0-0 000 32 4:6 on", legal.Goal{Turns: 5}, false},
		"8 turns":                           {later, "2b 1 0-0 000 36 4:6 on", legal.Goal{Turns: 8}, true},
		"9 turns are none":                  {start, "1t 0 0-0 000 11 5:0 on", legal.Goal{Turns: 9}, false},
		"all of it":                         {later, "2b 2 0-0 000 39 4:7 on", legal.Goal{Outs: 1, Runs: 1, Turns: 2}, true},
		"all of it but a run":               {later, "2b 2 0-0 000 39 4:6 on", legal.Goal{Outs: 1, Runs: 1, Turns: 2}, false},
		"the other half, and Half":          {start, "1b 0 0-0 000 41 0:0 on", legal.Goal{Half: true}, true},
		"the other half":                    {start, "1b 0 0-0 000 41 0:0 on", legal.Goal{}, false},
		"another inning, and Half":          {start, "2t 0 0-0 000 41 0:0 on", legal.Goal{Half: true}, true},
		"another inning":                    {start, "2t 0 0-0 000 41 0:0 on", legal.Goal{}, false},
		"an inning before, and Half":        {later, "1b 1 3-2 060 37 4:6 on", legal.Goal{Half: true}, true},
		"Half, without effect of the rest":  {start, "1b 0 0-0 000 11 0:0 on", legal.Goal{Half: true, Outs: 3, Turns: 100}, true},
		"Half, and too few runs":            {start, "1b 0 0-0 000 41 0:0 on", legal.Goal{Half: true, Runs: 1}, false},
		"Half, and a run":                   {start, "1b 0 0-0 000 41 1:0 on", legal.Goal{Half: true, Runs: 1}, true},
		"over in the same half, and Half":   {"9b 0 0-0 001 52 3:3 on", "9b 0 0-0 000 53 3:4 over", legal.Goal{Half: true, Runs: 1}, true},
		"over in the same half":             {"9b 0 0-0 001 52 3:3 on", "9b 0 0-0 000 53 3:4 over", legal.Goal{Runs: 1}, false},
		"a game that is over, without runs": {"9b 2 0-0 000 52 4:3 on", "9b 0 0-0 000 53 4:3 over", legal.Goal{Half: true}, true},
	} {
		meets, e := legal.Meets(state(t, x.from), state(t, x.state), x.goal)
		want(t, what, []any{meets, e}, []any{x.meets, api.OK})
	}
}

func TestMeetsErrors(t *testing.T) {
	for what, x := range wrongStates(t) {
		meets, e := legal.Meets(x.state, rule.State{}, legal.Goal{Runs: -1})
		want(t, what+", as the first state", []any{meets, e}, []any{false, x.err})
		if x.err == api.ErrOver {
			continue
		}
		meets, e = legal.Meets(rule.Start(), x.state, legal.Goal{Runs: -1})
		want(t, what+", as the second state", []any{meets, e}, []any{false, x.err})
	}
	meets, e := legal.Meets(rule.Start(), over(t), legal.Goal{Half: true})
	want(t, "a second state that is over", []any{meets, e}, []any{true, api.OK})
	meets, e = legal.Meets(rule.Start(), rule.Start(), legal.Goal{Turns: 101})
	want(t, "a goal", []any{meets, e}, []any{false, api.ErrRange})
}

func TestShortest(t *testing.T) {
	for what, x := range map[string]struct {
		state  rule.State
		family legal.Family
		goal   legal.Goal
		plays  int
		way    []string
		err    api.Errno
	}{
		"no play":                        {rule.Start(), simple(), legal.Goal{}, 0, nil, api.OK},
		"no play, with more permitted":   {rule.Start(), simple(), legal.Goal{}, 3, nil, api.OK},
		"a run":                          {rule.Start(), simple(), legal.Goal{Runs: 1}, 3, []string{"X X 0-4b"}, api.OK},
		"two runs":                       {rule.Start(), simple(), legal.Goal{Runs: 2}, 3, []string{"X X 0-1b", "X X 1-4b 0-4b"}, api.OK},
		"three outs in the half":         {rule.Start(), simple(), legal.Goal{Outs: 3}, 3, nil, api.ErrNone},
		"the half":                       {rule.Start(), simple(), legal.Goal{Half: true}, 3, []string{"X X 0-1b", "X X 0x1f:63", "X X 1x2f:63 0x1f:63"}, api.OK},
		"the half, with two plays":       {rule.Start(), simple(), legal.Goal{Half: true}, 2, nil, api.ErrNone},
		"the half, with a run":           {rule.Start(), simple(), legal.Goal{Half: true, Runs: 1}, 4, []string{"X X 0-1b", "X X 0x1f:63", "X X 1-4b 0-1b", "X X 1x2f:63 0x1f:63"}, api.OK},
		"the half, with a run, too soon": {rule.Start(), simple(), legal.Goal{Half: true, Runs: 1}, 3, nil, api.ErrNone},
		"an out":                         {rule.Start(), simple(), legal.Goal{Outs: 1}, 3, []string{"X X 0x1f:63"}, api.OK},
		"two outs":                       {rule.Start(), simple(), legal.Goal{Outs: 2}, 3, []string{"X X 0-1b", "X X 1x2f:63 0x1f:63"}, api.OK},
		"two outs with one play":         {rule.Start(), simple(), legal.Goal{Outs: 2}, 1, nil, api.ErrNone},
		"turns":                          {rule.Start(), simple(), legal.Goal{Turns: 2}, 4, []string{"X X 0-1b", "X X 0x1f:63"}, api.OK},
		"a turn and an out":              {rule.Start(), simple(), legal.Goal{Turns: 1, Outs: 1}, 1, []string{"X X 0x1f:63"}, api.OK},
		"the first of equal plays":       {rule.Start(), of("X", "X", "tb", ""), legal.Goal{Runs: 1}, 2, []string{"X X 0-4t"}, api.OK},
		"the end of a game":              {state(t, "9b 0 0-0 001 52 3:3 on"), of("- X", "- X", "sb", "f"), legal.Goal{Half: true}, 2, []string{"- - 3-4s"}, api.OK},
		"a run in the same half":         {state(t, "9b 0 0-0 001 52 3:3 on"), of("- X", "- X", "sb", "f"), legal.Goal{Runs: 1}, 3, nil, api.ErrNone},
		"balls":                          {rule.Start(), of("B BBB", "- W", "a", ""), legal.Goal{Turns: 1}, 4, []string{"B -", "BBB W 0-1a"}, api.OK},
		"strikes":                        {rule.Start(), of("CC C", "K -", "", "k"), legal.Goal{Outs: 1}, 4, []string{"CC -", "C K 0x1k:63"}, api.OK},
	} {
		way, e := legal.Shortest(x.state, x.family, x.goal, x.plays)
		want(t, what+", the error", e, x.err)
		sameStrings(t, what, printed(t, way), x.way)
	}
}

func TestShortestErrors(t *testing.T) {
	check := func(what string, s rule.State, f legal.Family, g legal.Goal, plays int, err api.Errno) {
		t.Helper()
		way, e := legal.Shortest(s, f, g, plays)
		want(t, what, []any{len(way), e}, []any{0, err})
	}
	for what, x := range wrongStates(t) {
		check(what, x.state, legal.Family{}, legal.Goal{Runs: -1}, -1, x.err)
	}
	for what, x := range wrongFamilies() {
		check(what, rule.Start(), x.family, legal.Goal{Runs: -1}, -1, x.err)
	}
	check("a goal", full(t), legal.Menu(), legal.Goal{Runs: 101}, 1, api.ErrRange)
	check("-1 plays", full(t), legal.Menu(), legal.Goal{}, -1, api.ErrRange)
	check("5 plays", full(t), legal.Menu(), legal.Goal{}, 5, api.ErrRange)
	check("too large a family behind a goal that is met", full(t), legal.Menu(), legal.Goal{}, 1, api.ErrLimit)
	check("too large a family in a later state", rule.Start(), legal.Menu(), legal.Goal{Runs: 1}, 4, api.ErrLimit)
	check("no way", full(t), of("X", "W", "b", "f"), legal.Goal{Runs: 1}, 4, api.ErrNone)
}

func TestShortestHasItsOwnMemory(t *testing.T) {
	f := of("X", "X", "", "f")
	way, _ := legal.Shortest(rule.Start(), f, legal.Goal{Half: true}, 3)
	checkSeparate(t, "Shortest", way)
	want(t, "the family", f, of("X", "X", "", "f"))
}

func TestCheckPath(t *testing.T) {
	third, last := state(t, "1t 0 0-0 001 21 0:0 on"), state(t, "9b 2 0-0 000 52 4:3 on")
	many := slices.Repeat([]string{"F -"}, 17)
	for what, x := range map[string]struct {
		state  rule.State
		family legal.Family
		plays  []string
		at     int
		err    api.Errno
	}{
		"no plays":                {rule.Start(), simple(), nil, -1, api.OK},
		"two outs":                {rule.Start(), simple(), []string{"X X 0x1f:63", "X X 0x1f:63"}, -1, api.OK},
		"four outs":               {rule.Start(), simple(), []string{"X X 0x1f:63", "X X 0x1f:63", "X X 0x1f:63", "X X 0x1f:63"}, -1, api.OK},
		"16 plays":                {state(t, "1t 0 0-2 000 11 0:0 on"), of("F", "-", "", ""), many[:16], -1, api.OK},
		"17 plays":                {state(t, "1t 0 0-2 000 11 0:0 on"), of("F", "-", "", ""), many, -1, api.ErrMany},
		"17 plays, none of them":  {rule.Start(), simple(), many, -1, api.ErrMany},
		"another event":           {rule.Start(), simple(), []string{"X X 0x1f:63", "X W 0x1f:63"}, 1, api.ErrNone},
		"other pitches":           {rule.Start(), simple(), []string{"BX X 0x1f:63"}, 0, api.ErrNone},
		"another safe way":        {rule.Start(), simple(), []string{"X X 0-1t"}, 0, api.ErrNone},
		"another way of outs":     {rule.Start(), simple(), []string{"X X 0x1g:63"}, 0, api.ErrNone},
		"other touches":           {rule.Start(), simple(), []string{"X X 0x1f:36"}, 0, api.ErrNone},
		"fewer touches":           {rule.Start(), simple(), []string{"X X 0x1f:6"}, 0, api.ErrNone},
		"more touches":            {rule.Start(), simple(), []string{"X X 0x1f:636"}, 0, api.ErrNone},
		"touches of a safe move":  {rule.Start(), simple(), []string{"X X 0-1b:63"}, 0, api.ErrNone},
		"late":                    {rule.Start(), simple(), []string{"X X late 0-1b"}, 0, api.ErrNone},
		"late in its family":      {rule.Start(), late(simple()), []string{"X X late 0-1b"}, 0, api.ErrRule},
		"not late in its family":  {rule.Start(), late(simple()), []string{"X X 0-1b"}, -1, api.OK},
		"a late run":              {state(t, "1t 2 0-0 001 21 0:0 on"), late(of("X", "X", "b", "g")), []string{"X X late 3-4b 0x2g:63"}, -1, api.OK},
		"a runner who is not on":  {rule.Start(), simple(), []string{"X X 1-2b 0-1b"}, 0, api.ErrNone},
		"a runner who is on":      {third, simple(), []string{"X X 3-4b 0-1b", "X X 1-2b 0-1b"}, -1, api.OK},
		"the batter's turn on":    {rule.Start(), of("X", "- X", "b", "f"), []string{"X - 0-1b"}, 0, api.ErrNone},
		"no move of the batter":   {rule.Start(), simple(), []string{"X X 0-1b", "X X"}, 1, api.ErrRule},
		"a rule":                  {third, simple(), []string{"X X 0-3b"}, 0, api.ErrRule},
		"a score that is full":    {state(t, "4t 0 0-0 000 41 9999:0 on"), simple(), []string{"X X 0-1b", "X X 1-4b 0-1b"}, 1, api.ErrLarge},
		"over":                    {last, simple(), []string{"X X 0x1f:63", "X X 0x1f:63"}, 1, api.ErrOver},
		"over before none":        {last, simple(), []string{"X X 0x1f:63", "B W 1-2a"}, 1, api.ErrOver},
		"the first with an error": {rule.Start(), simple(), []string{"X X 0-3t", "X X"}, 0, api.ErrNone},
		"none, and a rule":        {third, simple(), []string{"X X 0-3t"}, 0, api.ErrNone},
		"too large a family":      {full(t), legal.Menu(), []string{"X X 3-4b 2-4b 1-4b 0-4b", "CCC K 0x1k:63", "- -", "BBBB W 0-1a", "- - 1-3s"}, -1, api.OK},
	} {
		at, e := legal.CheckPath(x.state, x.family, acts(t, x.plays...))
		want(t, what, []any{at, e}, []any{x.at, x.err})
	}
}

func TestCheckPathErrors(t *testing.T) {
	wrong := make([]api.Play, legal.MaxPath+1)
	for what, x := range wrongStates(t) {
		at, e := legal.CheckPath(x.state, legal.Family{}, wrong)
		want(t, what, []any{at, e}, []any{-1, x.err})
	}
	for what, x := range wrongFamilies() {
		at, e := legal.CheckPath(rule.Start(), x.family, wrong)
		want(t, what, []any{at, e}, []any{-1, x.err})
	}
	l := acts(t, "X X 0x1f:63", "X X 0x1f:63")
	l[1].Moves[0].By = nil
	at, e := legal.CheckPath(rule.Start(), simple(), l)
	want(t, "a play without its form", []any{at, e}, []any{1, api.ErrTouch})
	at, e = legal.CheckPath(state(t, "9b 2 0-0 000 52 4:3 on"), simple(), l)
	want(t, "a play without its form behind the end", []any{at, e}, []any{1, api.ErrTouch})
	l[1] = api.Play{Pitches: "X", Event: "X", Moves: []api.Move{{From: -1, To: math.MaxInt, How: "b"}}}
	at, e = legal.CheckPath(rule.Start(), simple(), l)
	want(t, "a base that is none", []any{at, e}, []any{1, api.ErrRange})
}

// TestCheckPathByItsDefinition asks for each of many plays whether it is one of the combinations.
func TestCheckPathByItsDefinition(t *testing.T) {
	all := late(of("X B -", "X W -", "bs", "fg"))
	for _, s := range samples(t)[:6] {
		for _, f := range []legal.Family{simple(), of("X B", "X -", "b", "g"), late(of("B -", "- W", "s", "f"))} {
			listed := map[string]bool{}
			for _, p := range formed(s, f) {
				text, _ := play.Print(p)
				listed[text] = true
			}
			for _, p := range formed(s, all) {
				_, _, wanted := rule.Apply(s, p)
				if text, _ := play.Print(p); !listed[text] {
					wanted = api.ErrNone
				}
				at, e := legal.CheckPath(s, f, []api.Play{p})
				want(t, "a path of one play", []any{at, e}, []any{map[bool]int{true: -1}[wanted == api.OK], wanted})
			}
		}
	}
}
