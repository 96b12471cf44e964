package season_test

import (
	"strconv"
	"strings"
	"testing"

	"dugout/api"
	"dugout/season"
)

// leaders returns the leaders with strings: the player, both numbers of his rate, and his place.
func leaders(list ...string) []season.Leader {
	var l []season.Leader
	for _, s := range list {
		w := strings.Fields(s)
		l = append(l, season.Leader{Player: w[0], Rate: api.Ratio{Num: number(w[1]), Den: number(w[2])}, Place: number(w[3])})
	}
	return l
}

func TestLeaders(t *testing.T) {
	l := totals("Zoe 1 ab 2 h 1", "ann 2 ab 8 h 2", "bob 1 ab 3 h 1", "cy 1 ab 10 h 5", "dan 5 ab 4", "eve 1 h 3", "fay 0 ab 1 h 2", "gus 3 ab 12 h 4", "hal 1 ab 9")
	all := leaders("fay 2 1 1", "Zoe 1 2 2", "cy 1 2 2", "bob 1 3 4", "gus 1 3 4", "ann 1 4 6", "dan 0 1 7", "hal 0 1 7")
	for _, row := range []struct{ least, n, low, high int }{
		{0, 256, 0, 8}, {0, 8, 0, 8}, {1, 7, 0, 8}, {0, 6, 0, 6}, {1, 5, 0, 5}, {0, 4, 0, 5}, {0, 3, 0, 3}, {0, 2, 0, 3}, {0, 1, 0, 1}, {13, 5, 0, 0}, {999999999, 1, 0, 0},
	} {
		x, e := season.Leaders(l, "h", "ab", row.least, row.n)
		want(t, "the error of Leaders", e, api.OK)
		want(t, "Leaders with "+strconv.Itoa(row.least)+" up to "+strconv.Itoa(row.n), x, all[row.low:row.high])
	}
	for what, row := range map[string]struct {
		num, den string
		least, n int
		leaders  []season.Leader
	}{
		"without fay":      {"h", "ab", 2, 1, leaders("Zoe 1 2 1", "cy 1 2 1")},
		"without Zoe":      {"h", "ab", 3, 3, leaders("cy 1 2 1", "bob 1 3 2", "gus 1 3 2")},
		"at least 4":       {"h", "ab", 4, 3, leaders("cy 1 2 1", "gus 1 3 2", "ann 1 4 3")},
		"at least 8":       {"h", "ab", 8, 4, leaders("cy 1 2 1", "gus 1 3 2", "ann 1 4 3", "hal 0 1 4")},
		"at least 12":      {"h", "ab", 12, 4, leaders("gus 1 3 1")},
		"the other way":    {"ab", "h", 2, 3, leaders("ann 4 1 1", "gus 3 1 2", "cy 2 1 3")},
		"0 by something":   {"e", "h", 5, 9, leaders("cy 0 1 1")},
		"by nothing":       {"h", "e", 0, 9, nil},
		"the same kind":    {"h", "h", 3, 9, leaders("cy 1 1 1", "eve 1 1 1", "gus 1 1 1")},
		"by games of none": {"ab", "po", 0, 256, nil},
	} {
		x, e := season.Leaders(l, row.num, row.den, row.least, row.n)
		want(t, "the error of Leaders: "+what, e, api.OK)
		want(t, "Leaders: "+what, x, row.leaders)
	}
	x, e := season.Leaders(nil, "h", "ab", 0, 1)
	want(t, "Leaders of nothing", []any{len(x), e}, []any{0, api.OK})
	great := totals("a 1 ab 999999999 h 999999998", "b 1 ab 999999998 h 999999997", "c 1 ab 999999999 h 999999999", "d 1 ab 1 h 999999999")
	x, _ = season.Leaders(great, "h", "ab", 0, 4)
	want(t, "Leaders with great numbers", x, leaders("d 999999999 1 1", "c 1 1 2", "a 999999998 999999999 3", "b 999999997 999999998 4"))
	x, _ = season.Leaders(great, "h", "ab", 999999999, 4)
	want(t, "Leaders with the greatest least number", x, leaders("c 1 1 1", "a 999999998 999999999 2"))
}

// Places count players, not rates, and there may be more leaders than places.
func TestManyLeaders(t *testing.T) {
	l := roll(0, 4096, 3)
	x, e := season.Leaders(l, "e", "e", 1, 1)
	want(t, "Leaders with one rate", []any{len(x), e}, []any{4096, api.OK})
	for i := range l {
		l[i].Counts[0] = 1
	}
	l[4000].Counts[11] = 4
	l[5].Counts[11] = 2
	x, e = season.Leaders(l, "e", "ab", 1, 2)
	want(t, "Leaders with three rates", []any{len(x), e}, []any{4095, api.OK})
	if len(x) == 4095 {
		want(t, "the first ones, and the last one", []season.Leader{x[0], x[1], x[4094]}, leaders("p14000 4 1 1", "p10000 3 1 2", "p14095 3 1 2"))
	}
	for i := range l {
		l[i].Counts[11] = i
	}
	x, _ = season.Leaders(l, "e", "ab", 1, 256)
	want(t, "256 leaders", len(x), 256)
	want(t, "the last one", x[len(x)-1], leaders("p13840 3840 1 256")[0])
}

func TestLeadersErrors(t *testing.T) {
	l := totals("ann 2 ab 8 h 2", "bob -1 ab 3 h 1 e -1 po -1")
	for what, row := range map[string]struct {
		num, den string
		least, n int
		err      api.Errno
	}{
		"a first kind that is none":  {"H", "AB", -1, 0, api.ErrKind},
		"a second kind that is none": {"h", "AB", -1, 0, api.ErrKind},
		"a number below 0":           {"h", "ab", -1, 1, api.ErrRange},
		"a number above the limit":   {"h", "ab", 1000000000, 1, api.ErrRange},
		"the place 0":                {"h", "ab", 0, 0, api.ErrRange},
		"the place 257":              {"h", "ab", 0, 257, api.ErrRange},
		"the place -1":               {"h", "ab", 0, -1, api.ErrRange},
		"a first count below 0":      {"e", "ab", 0, 1, api.ErrRange},
		"a second count below 0":     {"h", "e", 0, 1, api.ErrRange},
		"one not to be counted":      {"e", "ab", 4, 1, api.ErrRange},
		"both counts below 0":        {"e", "po", 0, 1, api.ErrRange},
	} {
		x, e := season.Leaders(l, row.num, row.den, row.least, row.n)
		want(t, "Leaders: "+what, []any{len(x), e}, []any{0, row.err})
	}
	for _, kind := range wrongKinds {
		x, e := season.Leaders(l, kind, "ab", 0, 1)
		want(t, "Leaders of "+kind, []any{len(x), e}, []any{0, api.ErrKind})
		x, e = season.Leaders(l, "e", kind, 0, 1)
		want(t, "Leaders by "+kind, []any{len(x), e}, []any{0, api.ErrKind})
	}
	// Neither the games, nor counts of other kinds, matter.
	x, e := season.Leaders(l, "h", "ab", 3, 1)
	want(t, "Leaders with other numbers below 0", []any{x, e}, []any{leaders("bob 1 3 1"), api.OK})
	for at, kind := range kindList {
		y := totals("a 1", "b 1")
		y[1].Counts[at] = -1
		for _, other := range kindList {
			wanted := api.OK
			if kind == other {
				wanted = api.ErrRange
			}
			_, e := season.Leaders(y, other, kindList[(at+1)%12], 0, 1)
			want(t, "Leaders of "+other+" with negative "+kind, e, wanted)
			_, e = season.Leaders(y, kindList[(at+1)%12], other, 0, 1)
			want(t, "Leaders by "+other+" with negative "+kind, e, wanted)
		}
	}
}
