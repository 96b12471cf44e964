package season

import (
	"cmp"
	"slices"

	"dugout/api"
	"dugout/play"
)

// Average returns the quotient of two counts of a total.
func Average(t Total, num, den string) (api.Ratio, api.Errno) {
	above, wrongAbove := kindOf(num)
	below, wrongBelow := kindOf(den)
	if e := first(CheckTotals([]Total{t}), wrongAbove, wrongBelow); e != api.OK {
		return api.Ratio{}, e
	}
	return play.Rate(t.Counts[above], t.Counts[below])
}

// Leaders returns the leaders of totals.
func Leaders(t []Total, num, den string, least, n int) ([]Leader, api.Errno) {
	above, wrongAbove := kindOf(num)
	below, wrongBelow := kindOf(den)
	e := first(
		CheckTotals(t),
		wrongAbove,
		wrongBelow,
		checkRange(0, api.MaxNumber, least),
		checkRange(1, api.MaxList, n),
	)
	if e != api.OK {
		return nil, e
	}
	for _, x := range t {
		if e := checkRange(0, api.MaxNumber, x.Counts[above], x.Counts[below]); e != api.OK {
			return nil, e
		}
	}
	qualified := filter(t, func(x Total) bool { return x.Counts[below] >= max(least, 1) })
	ranked := placed(transform(qualified, func(x Total) Leader {
		rate, _ := play.Rate(x.Counts[above], x.Counts[below])
		return Leader{Player: x.Player, Rate: rate}
	}))
	return filter(ranked, func(x Leader) bool { return x.Place <= n }), api.OK
}

// placed returns players with their rates in order, with their places.
func placed(l []Leader) []Leader {
	ranked := slices.Clone(l)
	slices.SortFunc(ranked, func(a, b Leader) int {
		return cmp.Or(compareRates(b.Rate, a.Rate), cmp.Compare(a.Player, b.Player))
	})
	for i := range len(ranked) {
		ranked[i].Place = i + 1
		if i > 0 && ranked[i].Rate == ranked[i-1].Rate {
			ranked[i].Place = ranked[i-1].Place
		}
	}
	return ranked
}
