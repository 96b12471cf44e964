package rule_test

import (
	"strings"
	"testing"

	"dugout/api"
	"dugout/rule"
)

func TestStart(t *testing.T) {
	want(t, "the start", rule.Start(), rule.State{Inning: 1, Next: [2]int{1, 1}})
	want(t, "the start", rule.CheckState(rule.Start()), api.OK)
}

func TestRunnersFit(t *testing.T) {
	for _, x := range []struct {
		outs, batter int
		bases        [3]int
		want         api.Errno
	}{
		{0, 2, [3]int{1}, api.OK},
		{0, 2, [3]int{0, 1}, api.OK},
		{0, 2, [3]int{0, 0, 1}, api.OK},
		{0, 1, [3]int{9}, api.OK},
		{0, 1, [3]int{9, 8, 7}, api.OK},
		{0, 3, [3]int{2, 1}, api.OK},
		{0, 3, [3]int{1, 2}, api.ErrOrder},
		{0, 3, [3]int{1}, api.ErrOrder},
		{1, 3, [3]int{1}, api.OK},
		{1, 4, [3]int{1}, api.ErrOrder},
		{2, 4, [3]int{1}, api.OK},
		{2, 5, [3]int{1}, api.ErrOrder},
		{0, 1, [3]int{1}, api.ErrOrder},
		{2, 1, [3]int{1}, api.ErrOrder},
		{2, 3, [3]int{2, 2}, api.ErrOrder},
		{2, 4, [3]int{2, 2}, api.ErrOrder},
		{2, 4, [3]int{1, 2}, api.ErrOrder},
		{2, 5, [3]int{2, 0, 3}, api.ErrOrder},
		{2, 5, [3]int{3, 0, 2}, api.OK},
		{1, 5, [3]int{3, 0, 1}, api.ErrOrder},
		{2, 5, [3]int{3, 0, 1}, api.OK},
		{2, 6, [3]int{3, 2, 1}, api.OK},
		{2, 7, [3]int{3, 2, 1}, api.ErrOrder},
		{2, 7, [3]int{6, 4, 3}, api.OK},
		{0, 7, [3]int{6, 4, 3}, api.ErrOrder},
		{0, 3, [3]int{0, 2, 1}, api.OK},
		{0, 3, [3]int{2, 0, 2}, api.ErrOrder},
	} {
		s := rule.State{Inning: 1, Outs: x.outs, Bases: x.bases, Next: [2]int{x.batter, 5}}
		want(t, "the runners of "+text(s), rule.CheckState(s), x.want)
		s.Half, s.Next = 1, [2]int{5, x.batter}
		want(t, "the other half, "+text(s), rule.CheckState(s), x.want)
	}
}

// text returns numbers of a state that may be none.
func text(s rule.State) string {
	digit := func(n int) string { return string(rune('0' + n)) }
	return digit(s.Outs) + " outs " + digit(s.Bases[0]) + digit(s.Bases[1]) + digit(s.Bases[2]) + " " + digit(s.Next[0]) + digit(s.Next[1])
}

func TestOver(t *testing.T) {
	for _, x := range []struct {
		inning, half int
		score        [2]int
		over, on     api.Errno
	}{
		{8, 1, [2]int{0, 1}, api.ErrState, api.OK},
		{8, 1, [2]int{1, 0}, api.ErrState, api.OK},
		{9, 0, [2]int{0, 0}, api.ErrState, api.OK},
		{9, 0, [2]int{1, 0}, api.ErrState, api.OK},
		{9, 0, [2]int{0, 1}, api.OK, api.OK},
		{9, 1, [2]int{0, 0}, api.ErrState, api.OK},
		{9, 1, [2]int{1, 0}, api.OK, api.OK},
		{9, 1, [2]int{0, 1}, api.OK, api.ErrState},
		{29, 1, [2]int{4, 4}, api.ErrState, api.OK},
		{30, 0, [2]int{4, 4}, api.ErrState, api.OK},
		{30, 1, [2]int{4, 4}, api.OK, api.OK},
		{30, 1, [2]int{9998, 9999}, api.OK, api.ErrState},
		{30, 0, [2]int{9998, 9999}, api.OK, api.OK},
	} {
		s := rule.State{Inning: x.inning, Half: x.half, Score: x.score, Next: [2]int{1, 1}}
		want(t, "on", rule.CheckState(s), x.on)
		s.Over = true
		want(t, "over", rule.CheckState(s), x.over)
		for _, change := range []func(*rule.State){
			func(s *rule.State) { s.Outs = 1 },
			func(s *rule.State) { s.Balls = 1 },
			func(s *rule.State) { s.Strikes = 1 },
			func(s *rule.State) { s.Bases[0] = 9 },
			func(s *rule.State) { s.Bases[2] = 9 },
		} {
			busy := s
			change(&busy)
			want(t, "over with something left", rule.CheckState(busy), api.ErrState)
		}
	}
}

func TestBatterAndRunners(t *testing.T) {
	for _, x := range []struct {
		state   string
		batter  int
		runners []int
		forced  [4]bool
	}{
		{"1t 0 0-0 000 37 0:0 on", 3, nil, [4]bool{true}},
		{"1b 0 0-0 000 37 0:0 on", 7, nil, [4]bool{true}},
		{"1t 0 0-0 100 25 0:0 on", 2, []int{1}, [4]bool{true, true}},
		{"1t 0 0-0 010 25 0:0 on", 2, []int{1}, [4]bool{true}},
		{"1t 0 0-0 001 25 0:0 on", 2, []int{1}, [4]bool{true}},
		{"1t 0 3-1 210 31 0:0 on", 3, []int{1, 2}, [4]bool{true, true, true}},
		{"1t 0 0-0 201 31 0:0 on", 3, []int{1, 2}, [4]bool{true, true}},
		{"1t 0 0-0 021 31 0:0 on", 3, []int{1, 2}, [4]bool{true}},
		{"1b 2 0-0 198 42 5:0 on", 2, []int{8, 9, 1}, [4]bool{true, true, true, true}},
	} {
		s := state(t, x.state)
		b, e := rule.Batter(s)
		want(t, x.state+", Batter", b, x.batter)
		want(t, x.state+", Batter", e, api.OK)
		r, e := rule.Runners(s)
		want(t, x.state+", Runners", r, x.runners)
		want(t, x.state+", Runners", e, api.OK)
		f, e := rule.Forced(s)
		want(t, x.state+", Forced", f, x.forced)
		want(t, x.state+", Forced", e, api.OK)
	}
	over := state(t, "9b 0 0-0 000 53 3:4 over")
	b, e := rule.Batter(over)
	want(t, "over, Batter", b, 0)
	want(t, "over, Batter", e, api.ErrOver)
	_, e = rule.Runners(over)
	want(t, "over, Runners", e, api.ErrOver)
	f, e := rule.Forced(over)
	want(t, "over, Forced", f, [4]bool{})
	want(t, "over, Forced", e, api.ErrOver)
	_, _, e = rule.Count(over, "no pitches")
	want(t, "over, Count", e, api.ErrOver)
}

func TestCount(t *testing.T) {
	for _, x := range []struct {
		count, pitches string
		want           [2]int
		asked          string
		err            api.Errno
	}{
		{"0-0", "", [2]int{}, "", api.OK},
		{"3-2", "", [2]int{3, 2}, "", api.OK},
		{"3-2", "FFF", [2]int{3, 2}, "", api.OK},
		{"3-1", "CB", [2]int{4, 2}, "W", api.OK},
		{"3-1", "CC", [2]int{3, 3}, "K", api.OK},
		{"0-2", "FS", [2]int{0, 3}, "K", api.OK},
		{"0-2", "BBBX", [2]int{3, 2}, "X", api.OK},
		{"1-2", "H", [2]int{1, 2}, "H", api.OK},
		{"3-0", "BB", [2]int{}, "", api.ErrPitch},
		{"3-0", "BX", [2]int{}, "", api.ErrPitch},
		{"0-2", "SB", [2]int{}, "", api.ErrPitch},
		{"0-0", "XB", [2]int{}, "", api.ErrPitch},
		{"0-0", "Q", [2]int{}, "", api.ErrPitch},
		{"0-0", strings.Repeat("F", 24), [2]int{0, 2}, "", api.OK},
		{"0-0", strings.Repeat("Q", 25), [2]int{}, "", api.ErrMany},
	} {
		counted, asked, e := rule.Count(state(t, "1t 0 "+x.count+" 000 11 0:0 on"), x.pitches)
		want(t, x.count+" "+x.pitches, counted, x.want)
		want(t, x.count+" "+x.pitches+", the event", asked, x.asked)
		want(t, x.count+" "+x.pitches+", the error", e, x.err)
	}
}
