package play_test

import (
	"fmt"
	"math"
	"strings"
	"testing"

	"dugout/api"
	"dugout/play"
)

func TestCount(t *testing.T) {
	for _, x := range []struct {
		balls, strikes int
		pitches        string
		want           [2]int
	}{
		{0, 0, "", [2]int{0, 0}},
		{3, 2, "", [2]int{3, 2}},
		{1, 1, "BFF", [2]int{2, 2}},
		{1, 1, "BFFS", [2]int{2, 3}},
		{0, 0, "BBBB", [2]int{4, 0}},
		{0, 0, "CSC", [2]int{0, 3}},
		{0, 0, "FFFF", [2]int{0, 2}},
		{0, 1, "F", [2]int{0, 2}},
		{3, 2, "B", [2]int{4, 2}},
		{3, 2, "C", [2]int{3, 3}},
		{2, 1, "X", [2]int{2, 1}},
		{2, 1, "H", [2]int{2, 1}},
		{3, 2, strings.Repeat("F", 23) + "X", [2]int{3, 2}},
	} {
		c, at, e := play.Count(x.balls, x.strikes, x.pitches)
		what := fmt.Sprint("Count ", x.balls, " ", x.strikes, " ", x.pitches)
		want(t, what, c, x.want)
		want(t, what, at, 0)
		want(t, what, e, api.OK)
	}
}

func TestCountErrors(t *testing.T) {
	for _, x := range []struct {
		balls, strikes int
		pitches        string
		at             int
		err            api.Errno
	}{
		{-1, 0, "", 0, api.ErrRange},
		{4, 0, "", 0, api.ErrRange},
		{0, -1, "", 0, api.ErrRange},
		{0, 3, "", 0, api.ErrRange},
		{math.MinInt, math.MaxInt, "Q", 0, api.ErrRange},
		{4, 0, strings.Repeat("F", 25), 0, api.ErrRange},
		{0, 0, strings.Repeat("F", 25), 0, api.ErrMany},
		{0, 0, "Q" + strings.Repeat("F", 24), 0, api.ErrMany},
		{0, 0, strings.Repeat("é", 13), 0, api.ErrMany},
		{1, 1, "BFFSB", 4, api.ErrPitch},
		{0, 0, "BBBBB", 4, api.ErrPitch},
		{3, 2, "BX", 1, api.ErrPitch},
		{3, 2, "SX", 1, api.ErrPitch},
		{0, 0, "XB", 1, api.ErrPitch},
		{0, 0, "HB", 1, api.ErrPitch},
		{0, 0, "XX", 1, api.ErrPitch},
		{0, 0, "HQ", 1, api.ErrPitch},
		{0, 0, "Q", 0, api.ErrPitch},
		{0, 0, "B-", 1, api.ErrPitch},
		{0, 0, "BCé", 2, api.ErrPitch},
		{0, 0, "BC\xff", 2, api.ErrPitch},
		{0, 0, "b", 0, api.ErrPitch},
	} {
		c, at, e := play.Count(x.balls, x.strikes, x.pitches)
		what := fmt.Sprintf("Count %d %d %q", x.balls, x.strikes, x.pitches)
		want(t, what, c, [2]int{})
		want(t, what, at, x.at)
		want(t, what, e, x.err)
	}
}

func TestOutsRunsAdvances(t *testing.T) {
	for s, wanted := range map[string][3]int{
		"- -":                                {0, 0, 0},
		"BCX X 1x2f:64 0x1f:643":             {2, 0, 0},
		"X X late 3-4b 0x1c:8":               {1, 1, 1},
		"X X 3-4b 2-4b 1-4b 0-4b":            {0, 4, 10},
		"- - 3x4g:2 1-3t":                    {1, 0, 2},
		"X X 3x4f:2 2x3f:5 1x2f:4 0x1f:3":    {4, 0, 0},
		"X X 3x4g:2 2x2d:4 1-2t 0-1b":        {2, 0, 2},
		"H H 3-4a 2-3a 1-2a 0-1a":            {0, 1, 4},
		"- - 2-4t":                           {0, 1, 2},
		"X X late 3-4b 2-4b 1x4g:92 0-3t:94": {1, 2, 6},
	} {
		p := parsed(t, s)
		n, e := play.Outs(p)
		want(t, "Outs "+s, n, wanted[0])
		want(t, "its error", e, api.OK)
		n, e = play.Runs(p)
		want(t, "Runs "+s, n, wanted[1])
		want(t, "its error", e, api.OK)
		n, e = play.Advances(p)
		want(t, "Advances "+s, n, wanted[2])
		want(t, "its error", e, api.OK)
	}
}

func TestMoveOf(t *testing.T) {
	p := parsed(t, "X X 3-4b 1x2f:64 0-1b")
	for from, wanted := range []api.Move{0: safe(0, 1, "b"), 1: out(1, 2, "f", 6, 4), 3: safe(3, 4, "b")} {
		m, e := play.MoveOf(p, from)
		want(t, fmt.Sprint("MoveOf ", from), m, wanted)
		if from == 2 {
			want(t, "its error", e, api.ErrNone)
		} else {
			want(t, "its error", e, api.OK)
		}
	}
	for _, from := range []int{-1, 4, math.MinInt, math.MaxInt} {
		m, e := play.MoveOf(p, from)
		want(t, fmt.Sprint("MoveOf ", from), m, api.Move{})
		want(t, "its error", e, api.ErrRange)
	}
	m, _ := play.MoveOf(p, 1)
	m.By[0] = 9
	want(t, "the touches behind a change", p.Moves[1].By, []int{6, 4})
}

func TestTouches(t *testing.T) {
	for s, wanted := range map[string][9]int{
		"- -":                      {},
		"BCX X 1x2f:64 0x1f:643":   {2: 1, 3: 2, 5: 2},
		"X X 2-4b:82 0-2t:1982828": {0: 1, 1: 3, 7: 4, 8: 1},
	} {
		k, e := play.Touches(parsed(t, s))
		want(t, "Touches "+s, k, wanted)
		want(t, "its error", e, api.OK)
	}
}

func TestPutouts(t *testing.T) {
	for s, wanted := range map[string][]int{
		"- -":                              nil,
		"X X 3-4b:2 0-1b:64":               nil,
		"BCX X 1x2f:64 0x1f:643":           {4, 3},
		"X X 3x4f:2 2-3t:5 1x1d:43 0x1c:4": {2, 3, 4},
		"- - 1x2g:343":                     {3},
	} {
		l, e := play.Putouts(parsed(t, s))
		want(t, "Putouts "+s, l, wanted)
		want(t, "its error", e, api.OK)
	}
}

func TestAssists(t *testing.T) {
	for _, x := range []struct {
		s    string
		from int
		want []int
		err  api.Errno
	}{
		{"BCX X 1x2f:64 0x1f:643", 0, []int{4, 6}, api.OK},
		{"BCX X 1x2f:64 0x1f:643", 1, []int{6}, api.OK},
		{"BCX X 1x2f:64 0x1f:643", 2, nil, api.ErrNone},
		{"BCX X 1x2f:64 0x1f:643", 4, nil, api.ErrRange},
		{"BCX X 1x2f:64 0x1f:643", -1, nil, api.ErrRange},
		{"X X 0x1c:8", 0, nil, api.OK},
		{"X X 0-1b:63", 0, nil, api.ErrMove},
		{"- - 1x2g:343", 1, []int{4}, api.OK},
		{"- - 1x2g:343434343", 1, []int{4}, api.OK},
		{"- - 3x4g:987654321", 3, []int{2, 3, 4, 5, 6, 7, 8, 9}, api.OK},
		{"- - 3x4g:962962962", 3, []int{6, 9}, api.OK},
	} {
		l, e := play.Assists(parsed(t, x.s), x.from)
		want(t, fmt.Sprint("Assists ", x.s, " ", x.from), l, x.want)
		want(t, "its error", e, x.err)
	}
}
