package legal_test

import (
	"math"
	"reflect"
	"slices"
	"strings"
	"testing"

	"dugout/api"
	"dugout/legal"
	"dugout/play"
	"dugout/rule"
)

// want reports a result that is not the expected one; nil and empty lists are equal.
func want(t *testing.T, what string, got, wanted any) {
	t.Helper()
	a, b := reflect.ValueOf(got), reflect.ValueOf(wanted)
	if a.Kind() == reflect.Slice && b.Kind() == reflect.Slice && a.Len() == 0 && b.Len() == 0 {
		return
	}
	if !reflect.DeepEqual(got, wanted) {
		t.Errorf("%s: got %v, want %v", what, got, wanted)
	}
}

// sameStrings reports the first difference between two lists, which may be long.
func sameStrings(t *testing.T, what string, got, wanted []string) {
	t.Helper()
	for i := range min(len(got), len(wanted)) {
		if got[i] != wanted[i] {
			t.Errorf("%s: got %q at %d, want %q", what, got[i], i, wanted[i])
			return
		}
	}
	want(t, what+", how many", len(got), len(wanted))
}

// state returns the state with a string that is known to be right.
func state(t *testing.T, s string) rule.State {
	t.Helper()
	x, e := rule.Parse(s)
	if e != api.OK {
		t.Fatalf("rule.Parse(%q): error %d", s, e)
	}
	return x
}

// shown returns the strings of states.
func shown(t *testing.T, l []rule.State) []string {
	t.Helper()
	var texts []string
	for _, s := range l {
		text, e := rule.Print(s)
		want(t, "the error of rule.Print", e, api.OK)
		texts = append(texts, text)
	}
	return texts
}

// acts returns the plays with strings that are known to have their form.
func acts(t *testing.T, list ...string) []api.Play {
	t.Helper()
	var l []api.Play
	for _, s := range list {
		p, _, e := play.Parse(s)
		if e != api.OK {
			t.Fatalf("play.Parse(%q): error %d", s, e)
		}
		l = append(l, p)
	}
	return l
}

// printed returns the strings of plays.
func printed(t *testing.T, l []api.Play) []string {
	t.Helper()
	var texts []string
	for _, p := range l {
		text, e := play.Print(p)
		want(t, "the error of play.Print", e, api.OK)
		texts = append(texts, text)
	}
	return texts
}

// simple returns the family A of the document's examples.
func simple() legal.Family {
	return legal.Family{Pitches: []string{"X"}, Events: []string{"X"}, Safe: "b", Outs: "f", By: []int{6, 3}}
}

// with returns the family A, changed.
func with(change func(*legal.Family)) legal.Family {
	f := simple()
	change(&f)
	return f
}

// of returns the family with these pitches and events, which are separated by blanks, ways of safe moves and of outs, and the touches of the family A; - is no pitch, or no event.
func of(pitches, events, safe, outs string) legal.Family {
	split := func(s string) []string {
		list := strings.Split(s, " ")
		for i := range list {
			list[i] = strings.TrimPrefix(list[i], "-")
		}
		return list
	}
	return legal.Family{Pitches: split(pitches), Events: split(events), Safe: safe, Outs: outs, By: []int{6, 3}}
}

// late returns a family with Late.
func late(f legal.Family) legal.Family {
	f.Late = true
	return f
}

// full returns the state at the start with a runner on each base.
func full(t *testing.T) rule.State {
	t.Helper()
	return state(t, "1t 0 0-0 321 41 0:0 on")
}

// over returns a state of a game that is over.
func over(t *testing.T) rule.State {
	t.Helper()
	return state(t, "9b 0 0-0 000 53 3:4 over")
}

// wrongStates returns states that no function accepts whose state must not be over, with their errors.
func wrongStates(t *testing.T) map[string]struct {
	state rule.State
	err   api.Errno
} {
	t.Helper()
	type row = struct {
		state rule.State
		err   api.Errno
	}
	changed := func(change func(*rule.State)) rule.State {
		s := rule.Start()
		change(&s)
		return s
	}
	return map[string]row{
		"nothing":                 {rule.State{}, api.ErrRange},
		"inning 31":               {changed(func(s *rule.State) { s.Inning = 31 }), api.ErrRange},
		"half 2":                  {changed(func(s *rule.State) { s.Half = 2 }), api.ErrSide},
		"half -1":                 {changed(func(s *rule.State) { s.Half = -1 }), api.ErrSide},
		"next slot 0":             {changed(func(s *rule.State) { s.Next[0] = 0 }), api.ErrRange},
		"the least base":          {changed(func(s *rule.State) { s.Bases[2] = math.MinInt }), api.ErrRange},
		"a game that is decided":  {changed(func(s *rule.State) { s.Inning, s.Half, s.Score[1] = 9, 1, 1 }), api.ErrState},
		"over in the first half":  {changed(func(s *rule.State) { s.Over = true }), api.ErrState},
		"runners that do not fit": {changed(func(s *rule.State) { s.Bases[0] = 1 }), api.ErrOrder},
		"a game that is over":     {over(t), api.ErrOver},
	}
}

// wrongFamilies returns families that are none, with their errors.
func wrongFamilies() map[string]struct {
	family legal.Family
	err    api.Errno
} {
	type row = struct {
		family legal.Family
		err    api.Errno
	}
	pitches := func(l ...string) legal.Family { return with(func(f *legal.Family) { f.Pitches = l }) }
	events := func(l ...string) legal.Family { return with(func(f *legal.Family) { f.Events = l }) }
	safe := func(letters string) legal.Family { return with(func(f *legal.Family) { f.Safe = letters }) }
	outs := func(letters string) legal.Family { return with(func(f *legal.Family) { f.Outs = letters }) }
	by := func(l ...int) legal.Family { return with(func(f *legal.Family) { f.By = l }) }
	return map[string]row{
		"nothing":                       {legal.Family{}, api.ErrEmpty},
		"no pitches":                    {pitches(), api.ErrEmpty},
		"9 strings":                     {pitches("", "B", "C", "S", "F", "X", "H", "BB", "BC"), api.ErrMany},
		"9 strings, the first is wrong": {pitches("Z", "Z", "", "", "", "", "", "", ""), api.ErrMany},
		"25 pitches":                    {pitches("X", strings.Repeat("F", 25)), api.ErrMany},
		"25 letters that are none":      {pitches(strings.Repeat("Z", 25)), api.ErrMany},
		"no pitch":                      {pitches("X", "-"), api.ErrPitch},
		"a small letter":                {pitches("b"), api.ErrPitch},
		"X before the end":              {pitches("X", "XB"), api.ErrPitch},
		"H before the end":              {pitches("HH"), api.ErrPitch},
		"pitches twice":                 {pitches("X", "B", "X"), api.ErrTwice},
		"no pitches twice":              {pitches("", ""), api.ErrTwice},
		"twice, then wrong":             {pitches("X", "X", "Z"), api.ErrTwice},
		"wrong, then twice":             {pitches("X", "Z", "X"), api.ErrPitch},
		"wrong and twice":               {pitches("Z", "Z"), api.ErrPitch},
		"pitches before events":         {with(func(f *legal.Family) { f.Pitches, f.Events = []string{"Z"}, nil }), api.ErrPitch},
		"no events":                     {events(), api.ErrEmpty},
		"9 events":                      {events("", "K", "W", "H", "I", "X", "N", "Y", "Z"), api.ErrMany},
		"no event":                      {events("X", "Z"), api.ErrKind},
		"a small event":                 {events("x"), api.ErrKind},
		"two events at once":            {events("KW"), api.ErrKind},
		"a dash as an event":            {events("-"), api.ErrKind},
		"an event twice":                {events("X", "W", "W"), api.ErrTwice},
		"the empty event twice":         {events("", "X", ""), api.ErrTwice},
		"an event twice, then none":     {events("X", "X", "Z"), api.ErrTwice},
		"no event, then one twice":      {events("X", "Z", "X"), api.ErrKind},
		"no event before ways":          {with(func(f *legal.Family) { f.Events, f.Safe = nil, "z" }), api.ErrEmpty},
		"a way of outs":                 {safe("bf"), api.ErrKind},
		"a blank among the ways":        {safe("b a"), api.ErrKind},
		"a large letter":                {safe("B"), api.ErrKind},
		"a letter of two bytes":         {safe("\u00e9"), api.ErrKind},
		"half a letter":                 {safe("\xe9"), api.ErrKind},
		"a byte 0":                      {safe("\x00"), api.ErrKind},
		"a way twice":                   {safe("bab"), api.ErrTwice},
		"a way twice, then none":        {safe("bbz"), api.ErrTwice},
		"no way, then one twice":        {safe("bzb"), api.ErrKind},
		"8 ways":                        {safe("baspktob"), api.ErrTwice},
		"very many ways":                {safe(strings.Repeat("baspkto", 100000)), api.ErrTwice},
		"ways before outs":              {with(func(f *legal.Family) { f.Safe, f.Outs = "bb", "b" }), api.ErrTwice},
		"a way of safe moves":           {outs("fb"), api.ErrKind},
		"a way of outs that is none":    {outs("z"), api.ErrKind},
		"half a letter of outs":         {outs("f\xff"), api.ErrKind},
		"a way of outs twice":           {outs("ff"), api.ErrTwice},
		"an out twice, then no way":     {outs("gfgz"), api.ErrTwice},
		"outs before touches":           {with(func(f *legal.Family) { f.Outs, f.By = "z", nil }), api.ErrKind},
		"no touches":                    {by(), api.ErrTouch},
		"10 touches":                    {by(1, 2, 1, 2, 1, 2, 1, 2, 1, 2), api.ErrTouch},
		"fielder 0":                     {by(6, 0), api.ErrTouch},
		"fielder 10":                    {by(10), api.ErrTouch},
		"the least fielder":             {by(math.MinInt), api.ErrTouch},
		"neighbours that are the same":  {by(6, 3, 3), api.ErrTouch},
		"no touches, and no outs":       {with(func(f *legal.Family) { f.Outs, f.By = "", nil }), api.ErrTouch},
		"very many touches":             {by(make([]int, 100000)...), api.ErrTouch},
	}
}

// combinations lists the combinations of a family in a state by their definition.
func combinations(s rule.State, f legal.Family) []api.Play {
	var l []api.Play
	for _, pitches := range f.Pitches {
		for _, event := range f.Events {
			for _, isLate := range []bool{false, true} {
				if isLate && !f.Late {
					continue
				}
				plays := []api.Play{{Pitches: pitches, Event: event, Late: isLate}}
				for from := 3; from >= 0; from-- {
					if from > 0 && s.Bases[from-1] != 0 || from == 0 && event != "" {
						plays = extended(plays, f, from)
					}
				}
				l = append(l, plays...)
			}
		}
	}
	return l
}

// extended returns plays, each with each option for one who may move.
func extended(plays []api.Play, f legal.Family, from int) []api.Play {
	var longer []api.Play
	for _, p := range plays {
		longer = append(longer, p)
		add := func(m api.Move) {
			q := p
			q.Moves = append(slices.Clone(p.Moves), m)
			longer = append(longer, q)
		}
		for to := from + 1; to <= 4; to++ {
			for _, how := range f.Safe {
				add(api.Move{From: from, To: to, How: string(how)})
			}
		}
		for to := max(1, from); to <= 4; to++ {
			for _, how := range f.Outs {
				add(api.Move{From: from, To: to, Out: true, How: string(how), By: f.By})
			}
		}
	}
	return longer
}

// formed returns the combinations that have the form of plays, by their definition.
func formed(s rule.State, f legal.Family) []api.Play {
	var l []api.Play
	for _, p := range combinations(s, f) {
		if play.CheckPlay(p) == api.OK {
			l = append(l, p)
		}
	}
	return l
}

// permitted returns the plays of a family in a state, and the states after them, by their definition.
func permitted(s rule.State, f legal.Family) ([]api.Play, []rule.State) {
	var plays []api.Play
	var states []rule.State
	for _, p := range formed(s, f) {
		if next, _, e := rule.Apply(s, p); e == api.OK {
			plays, states = append(plays, p), append(states, next)
		}
	}
	return plays, states
}

// samples returns states of several kinds.
func samples(t *testing.T) []rule.State {
	t.Helper()
	var l []rule.State
	for _, s := range []string{
		"1t 0 0-0 000 11 0:0 on",
		"1t 0 0-0 100 21 0:0 on",
		"2b 1 3-1 020 44 1:7 on",
		"3t 2 0-2 001 21 0:0 on",
		"1t 0 3-2 210 31 0:0 on",
		"5b 1 0-0 908 12 5:5 on",
		"8t 2 0-0 043 57 5:5 on",
		"9b 0 0-0 321 14 3:3 on",
		"9b 2 1-2 001 52 3:3 on",
		"30b 2 0-0 987 11 9:8 on",
		"4t 0 0-0 321 41 9998:0 on",
		"4t 0 0-0 321 41 9999:9999 on",
	} {
		l = append(l, state(t, s))
	}
	return l
}
