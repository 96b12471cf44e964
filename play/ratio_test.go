package play_test

import (
	"fmt"
	"math"
	"testing"

	"dugout/api"
	"dugout/play"
)

func TestRate(t *testing.T) {
	for _, x := range []struct {
		num, den int
		want     api.Ratio
	}{
		{6, -4, api.Ratio{Num: -3, Den: 2}},
		{-6, -4, api.Ratio{Num: 3, Den: 2}},
		{-6, 4, api.Ratio{Num: -3, Den: 2}},
		{4, 6, api.Ratio{Num: 2, Den: 3}},
		{0, 5, api.Ratio{Num: 0, Den: 1}},
		{0, -5, api.Ratio{Num: 0, Den: 1}},
		{7, 7, api.Ratio{Num: 1, Den: 1}},
		{-7, 7, api.Ratio{Num: -1, Den: 1}},
		{1, -1, api.Ratio{Num: -1, Den: 1}},
		{81, 20, api.Ratio{Num: 81, Den: 20}},
		{999999999, 999999999, api.Ratio{Num: 1, Den: 1}},
		{-999999999, 999999998, api.Ratio{Num: -999999999, Den: 999999998}},
		{1, -999999999, api.Ratio{Num: -1, Den: 999999999}},
	} {
		r, e := play.Rate(x.num, x.den)
		want(t, fmt.Sprint("Rate ", x.num, " ", x.den), r, x.want)
		want(t, "its error", e, api.OK)
	}
	for _, x := range []struct {
		num, den int
		err      api.Errno
	}{
		{1, 0, api.ErrZero},
		{0, 0, api.ErrZero},
		{1000000000, 1, api.ErrRange},
		{-1000000000, 1, api.ErrRange},
		{1, 1000000000, api.ErrRange},
		{1, -1000000000, api.ErrRange},
		{1000000000, 0, api.ErrRange},
		{math.MinInt, -1, api.ErrRange},
		{1, math.MinInt, api.ErrRange},
	} {
		r, e := play.Rate(x.num, x.den)
		want(t, fmt.Sprint("Rate ", x.num, " ", x.den), r, api.Ratio{})
		want(t, "its error", e, x.err)
	}
}

// wrongRatios returns ratios that do not have their form, with their errors.
func wrongRatios() map[api.Ratio]api.Errno {
	return map[api.Ratio]api.Errno{
		{}:                              api.ErrRange,
		{Num: 1, Den: 0}:                api.ErrRange,
		{Num: 1, Den: -1}:               api.ErrRange,
		{Num: -3, Den: -2}:              api.ErrRange,
		{Num: 1, Den: 1000000000}:       api.ErrRange,
		{Num: 1000000000, Den: 1}:       api.ErrRange,
		{Num: -1000000000, Den: 1}:      api.ErrRange,
		{Num: 1000000000, Den: 2}:       api.ErrRange,
		{Num: math.MinInt, Den: 1}:      api.ErrRange,
		{Num: 1, Den: math.MinInt}:      api.ErrRange,
		{Num: 0, Den: 2}:                api.ErrForm,
		{Num: 2, Den: 4}:                api.ErrForm,
		{Num: -9, Den: 6}:               api.ErrForm,
		{Num: 5, Den: 5}:                api.ErrForm,
		{Num: -999999999, Den: 3}:       api.ErrForm,
		{Num: 3, Den: api.MaxNumber}:    api.ErrForm,
		{Num: 0, Den: api.MaxNumber}:    api.ErrForm,
		{Num: -5, Den: 5}:               api.ErrForm,
		{Num: 999999998, Den: 10}:       api.ErrForm,
		{Num: 1 << 20, Den: 1 << 10}:    api.ErrForm,
		{Num: math.MaxInt, Den: 1 << 2}: api.ErrRange,
	}
}

func TestCheckRatio(t *testing.T) {
	for _, r := range []api.Ratio{{Num: 0, Den: 1}, {Num: 1, Den: 1}, {Num: -1, Den: 1}, {Num: -3, Den: 2}, {Num: api.MaxNumber, Den: 1}, {Num: -api.MaxNumber, Den: 1}, {Num: 1, Den: api.MaxNumber}, {Num: 999999998, Den: 999999999}} {
		want(t, fmt.Sprint("CheckRatio ", r), play.CheckRatio(r), api.OK)
	}
	for r, e := range wrongRatios() {
		want(t, fmt.Sprint("CheckRatio ", r), play.CheckRatio(r), e)
	}
}

func TestCompare(t *testing.T) {
	for _, x := range []struct {
		a, b api.Ratio
		want int
	}{
		{api.Ratio{Num: -3, Den: 2}, api.Ratio{Num: 0, Den: 1}, -1},
		{api.Ratio{Num: 1, Den: 2}, api.Ratio{Num: 1, Den: 3}, 1},
		{api.Ratio{Num: -1, Den: 2}, api.Ratio{Num: -1, Den: 3}, -1},
		{api.Ratio{Num: 1, Den: 2}, api.Ratio{Num: 1, Den: 2}, 0},
		{api.Ratio{Num: 2, Den: 1}, api.Ratio{Num: 3, Den: 2}, 1},
		{api.Ratio{Num: 999999998, Den: 999999999}, api.Ratio{Num: 999999997, Den: 999999998}, 1},
		{api.Ratio{Num: api.MaxNumber, Den: 1}, api.Ratio{Num: 1, Den: api.MaxNumber}, 1},
		{api.Ratio{Num: -api.MaxNumber, Den: 1}, api.Ratio{Num: 1, Den: api.MaxNumber}, -1},
	} {
		n, e := play.Compare(x.a, x.b)
		want(t, fmt.Sprint("Compare ", x.a, x.b), n, x.want)
		want(t, "its error", e, api.OK)
		n, _ = play.Compare(x.b, x.a)
		want(t, fmt.Sprint("Compare ", x.b, x.a), n, -x.want)
	}
	for r, wanted := range wrongRatios() {
		n, e := play.Compare(api.Ratio{Num: 1, Den: 1}, r)
		want(t, fmt.Sprint("Compare with ", r), e, wanted)
		want(t, "its result", n, 0)
		for s := range wrongRatios() {
			_, e = play.Compare(r, s)
			want(t, fmt.Sprint("Compare ", r, s), e, wanted)
		}
	}
}
