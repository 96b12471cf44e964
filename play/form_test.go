package play_test

import (
	"fmt"
	"math"
	"slices"
	"strings"
	"testing"

	"dugout/api"
	"dugout/play"
)

func TestIsName(t *testing.T) {
	for _, s := range []string{"a", "Z", "Bo_7", "a_", "z09", "AZaz", strings.Repeat("n", 24)} {
		want(t, s, play.IsName(s), true)
	}
	for _, s := range []string{"", "_a", "7a", "a b", "a-b", "é", "aé", "a\xff", "a\x00", " a", "a ", "@a", "[a", "`a", "{a", "a/", "a:", strings.Repeat("n", 25)} {
		want(t, fmt.Sprintf("%q", s), play.IsName(s), false)
	}
}

func TestDraw(t *testing.T) {
	for _, x := range []struct {
		key, n int
		want   []int
	}{
		{1, 0, nil},
		{1, 1, []int{0}},
		{1, 2, []int{1, 0}},
		{1, 3, []int{1, 2, 0}},
		{2147483398, 3, []int{0, 1, 2}},
	} {
		l, e := play.Draw(x.key, x.n)
		want(t, fmt.Sprint("Draw ", x.key, " ", x.n), l, x.want)
		want(t, "its error", e, api.OK)
	}
}

// The permutation is that of the definition, step by step, also for long lists and large keys.
func TestDrawLong(t *testing.T) {
	for _, key := range []int{1, 2, 12345, 2147483398} {
		for _, n := range []int{5, 9, 255, 256} {
			wanted := make([]int, n)
			for i := range wanted {
				wanted[i] = i
			}
			x := uint64(key)
			for i := n - 1; i >= 1; i-- {
				x = (40692 * x) % 2147483399
				j := x % uint64(i+1)
				wanted[i], wanted[j] = wanted[j], wanted[i]
			}
			l, e := play.Draw(key, n)
			want(t, fmt.Sprint("Draw ", key, " ", n), l, wanted)
			want(t, "its error", e, api.OK)
			slices.Sort(l)
			for i, x := range l {
				want(t, "each element once", x, i)
			}
		}
	}
}

func TestDrawOutOfRange(t *testing.T) {
	for _, x := range [][2]int{{0, 3}, {-1, 3}, {2147483399, 3}, {math.MaxInt, 3}, {math.MinInt, 3}, {1, -1}, {1, 257}, {1, math.MaxInt}, {1, math.MinInt}} {
		l, e := play.Draw(x[0], x[1])
		want(t, fmt.Sprint("Draw ", x), e, api.ErrRange)
		want(t, "its list", l, []int(nil))
	}
}

// fits lists the moves that fit, as From and To, for each way, s- before safe moves and x before outs.
var fits = map[string]string{
	"-b": "01 02 03 04 12 13 14 23 24 34",
	"-a": "01 02 03 04 12 13 14 23 24 34",
	"-s": "12 13 14 23 24 34",
	"-p": "01 02 03 04 12 13 14 23 24 34",
	"-k": "12 13 14 23 24 34",
	"-t": "01 02 03 04 12 13 14 23 24 34",
	"-o": "01 02 03 04 12 13 14 23 24 34",
	"xf": "01 12 23 34",
	"xg": "01 02 03 04 11 12 13 14 22 23 24 33 34",
	"xc": "01",
	"xd": "11 22 33",
	"xk": "01",
	"xn": "01 12 13 14 23 24 34",
	"xy": "01",
}

func TestCheckMoveOfEachWay(t *testing.T) {
	for _, isOut := range []bool{false, true} {
		kind := "-"
		if isOut {
			kind = "x"
		}
		for letter := 0; letter < 256; letter++ {
			how := string([]byte{byte(letter)})
			list, known := fits[kind+how]
			for from := -1; from <= 5; from++ {
				for to := -1; to <= 6; to++ {
					wanted := api.OK
					switch {
					case from < 0 || from > 3 || to < 1 || to > 4:
						wanted = api.ErrRange
					case !known:
						wanted = api.ErrKind
					case !slices.Contains(strings.Fields(list), fmt.Sprint(from)+fmt.Sprint(to)):
						wanted = api.ErrMove
					}
					m := api.Move{From: from, To: to, Out: isOut, How: how, By: []int{2}}
					want(t, fmt.Sprint("CheckMove ", m), play.CheckMove(m), wanted)
				}
			}
		}
	}
}

func TestCheckMoveWays(t *testing.T) {
	want(t, "no way", play.CheckMove(safe(1, 2, "")), api.ErrKind)
	want(t, "two ways", play.CheckMove(safe(1, 2, "ba")), api.ErrKind)
	want(t, "a way of a safe move for an out", play.CheckMove(out(1, 2, "b", 4)), api.ErrKind)
	want(t, "a way of an out for a safe move", play.CheckMove(safe(1, 2, "f", 4)), api.ErrKind)
	want(t, "the range before the way", play.CheckMove(out(4, 2, "b", 4)), api.ErrRange)
	want(t, "the range of To before the way", play.CheckMove(out(1, 5, "b", 4)), api.ErrRange)
	want(t, "the way before touches", play.CheckMove(safe(1, 2, "f", 0)), api.ErrKind)
	want(t, "the fit before touches", play.CheckMove(safe(2, 2, "b", 0)), api.ErrMove)
}

func TestCheckMoveTouches(t *testing.T) {
	want(t, "none of a safe move", play.CheckMove(safe(1, 2, "b")), api.OK)
	want(t, "none of an out", play.CheckMove(out(1, 2, "f")), api.ErrTouch)
	want(t, "one", play.CheckMove(out(1, 2, "f", 4)), api.OK)
	want(t, "1 and 9", play.CheckMove(safe(1, 2, "b", 1, 9)), api.OK)
	want(t, "one again, later", play.CheckMove(out(1, 2, "g", 3, 6, 3)), api.OK)
	want(t, "nine", play.CheckMove(out(1, 2, "g", 1, 2, 3, 4, 5, 6, 7, 8, 9)), api.OK)
	want(t, "ten", play.CheckMove(out(1, 2, "g", 1, 2, 3, 4, 5, 6, 7, 8, 9, 1)), api.ErrTouch)
	want(t, "ten of a safe move", play.CheckMove(safe(1, 2, "b", 1, 2, 3, 4, 5, 6, 7, 8, 9, 1)), api.ErrTouch)
	want(t, "0", play.CheckMove(safe(1, 2, "b", 0)), api.ErrTouch)
	want(t, "10", play.CheckMove(safe(1, 2, "b", 5, 10)), api.ErrTouch)
	want(t, "neighbours that are the same", play.CheckMove(safe(1, 2, "b", 5, 6, 6)), api.ErrTouch)
}

func TestCheckPlay(t *testing.T) {
	for what, p := range map[string]api.Play{
		"nothing":            {},
		"late without runs":  {Late: true},
		"24 pitches":         {Pitches: strings.Repeat("F", 23) + "X"},
		"each pitch":         {Pitches: "BCSFH"},
		"a long count":       {Pitches: "BBBBBCCCC"},
		"four moves":         {Event: "I", Moves: []api.Move{safe(3, 4, "a"), safe(2, 3, "a"), safe(1, 2, "a"), safe(0, 1, "a")}},
		"moves with gaps":    {Moves: []api.Move{safe(3, 4, "t"), out(1, 1, "d", 3)}},
		"no empty list":      {Moves: []api.Move{}},
		"an X and no event":  {Pitches: "X"},
		"an event, no pitch": {Event: "X"},
	} {
		want(t, what, play.CheckPlay(p), api.OK)
	}
	for _, event := range []string{"K", "W", "H", "I", "X", "N", "Y"} {
		want(t, event, play.CheckPlay(api.Play{Event: event}), api.OK)
	}
	for letter := 0; letter < 256; letter++ {
		s := string([]byte{byte(letter)})
		wanted := map[bool]api.Errno{true: api.OK, false: api.ErrPitch}
		want(t, "the pitch "+s, play.CheckPlay(api.Play{Pitches: s}), wanted[strings.Contains("BCSFXH", s)])
		wanted[false] = api.ErrKind
		want(t, "the event "+s, play.CheckPlay(api.Play{Event: s}), wanted[strings.Contains("KWHIXNY", s)])
	}
}
