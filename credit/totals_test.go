package credit_test

import (
	"math"
	"slices"
	"strconv"
	"testing"

	"dugout/api"
	"dugout/credit"
)

// allTotals returns all totals that there may be, in order, with a number.
func allTotals(n int) []credit.Total {
	var l []credit.Total
	for side := range 2 {
		for _, kind := range kindList {
			for slot := range 10 {
				for position := range 10 {
					if belongs(kind, slot, position) {
						l = append(l, credit.Total{Side: side, Kind: kind, Slot: slot, Position: position, N: n})
					}
				}
			}
		}
	}
	return l
}

func TestSum(t *testing.T) {
	for what, row := range map[string]struct {
		l []credit.Credit
		s []credit.Total
	}{
		"nothing":            {nil, nil},
		"one":                {gifts("3 1 bk 0 1 2"), totals("1 bk 0 1 2")},
		"of two plays":       {gifts("3 0 h 4 0 1", "7 0 h 4 0 1"), totals("0 h 4 0 2")},
		"twice in a play":    {gifts("3 0 h 4 0 1", "3 0 h 4 0 5"), totals("0 h 4 0 6")},
		"two sides":          {gifts("3 1 h 4 0 1", "3 0 h 4 0 1"), totals("0 h 4 0 1", "1 h 4 0 1")},
		"two kinds":          {gifts("3 0 bk 0 1 1", "3 0 po 0 1 1", "3 0 d 4 0 1", "3 0 h 4 0 1"), totals("0 h 4 0 1", "0 d 4 0 1", "0 po 0 1 1", "0 bk 0 1 1")},
		"two slots":          {gifts("3 0 h 9 0 1", "3 0 h 1 0 1", "3 0 h 5 0 1"), totals("0 h 1 0 1", "0 h 5 0 1", "0 h 9 0 1")},
		"two positions":      {gifts("3 0 a 0 9 1", "3 0 a 0 1 1", "3 0 a 0 5 1"), totals("0 a 0 1 1", "0 a 0 5 1", "0 a 0 9 1")},
		"a side comes first": {gifts("0 1 turn 1 0 1", "1 0 bk 0 1 1"), totals("0 bk 0 1 1", "1 turn 1 0 1")},
		"a kind comes first": {gifts("0 0 ab 1 0 1", "1 0 turn 9 0 1"), totals("0 turn 9 0 1", "0 ab 1 0 1")},
		"great numbers":      {gifts("0 0 h 1 0 999999998", "0 0 h 1 0 1", "0 0 h 2 0 999999999"), totals("0 h 1 0 999999999", "0 h 2 0 999999999")},
		"many":               {slices.Repeat(gifts("0 0 h 1 0 1"), credit.MaxCredits), totals("0 h 1 0 8192")},
	} {
		s, e := credit.Sum(row.l)
		want(t, "the error of Sum: "+what, e, api.OK)
		want(t, "Sum: "+what, s, row.s)
		want(t, "CheckTotals of a sum: "+what, credit.CheckTotals(s), api.OK)
	}
	for what, row := range map[string]struct {
		l   []credit.Credit
		err api.Errno
	}{
		"too large":                {gifts("0 0 h 1 0 999999999", "0 0 h 1 0 1"), api.ErrLarge},
		"the second one too large": {gifts("0 0 h 2 0 1", "0 0 h 3 0 999999999", "0 0 h 3 0 999999999"), api.ErrLarge},
		"very large":               {slices.Repeat(gifts("0 0 h 1 0 999999999"), credit.MaxCredits), api.ErrLarge},
		"too many":                 {slices.Repeat(gifts("0 0 h 1 0 1"), credit.MaxCredits+1), api.ErrMany},
		"no play":                  {gifts("256 0 h 1 0 1"), api.ErrRange},
		"no side":                  {gifts("0 2 h 1 0 1"), api.ErrSide},
		"no kind":                  {gifts("0 0 walk 1 0 1"), api.ErrKind},
		"no slot":                  {gifts("0 0 h 0 0 1"), api.ErrShape},
		"no number":                {gifts("0 0 h 1 0 0"), api.ErrRange},
		"too large, and no kind":   {gifts("0 0 h 1 0 999999999", "0 0 h 1 0 1", "0 0 walk 1 0 1"), api.ErrKind},
	} {
		s, e := credit.Sum(row.l)
		want(t, "Sum: "+what, []any{len(s), e}, []any{0, row.err})
	}
}

// wrongTotals returns lists that are none of totals, with their errors.
func wrongTotals() map[string]struct {
	l   []credit.Total
	err api.Errno
} {
	type row = struct {
		l   []credit.Total
		err api.Errno
	}
	return map[string]row{
		"a negative side":         {totals("-1 turn 1 0 1"), api.ErrSide},
		"a great side":            {totals("2 turn 1 0 1"), api.ErrSide},
		"no kind":                 {totals("0 walk 1 0 1"), api.ErrKind},
		"an empty kind":           {make([]credit.Total, 1), api.ErrKind},
		"no slot":                 {totals("0 turn 0 0 1"), api.ErrShape},
		"a great slot":            {totals("0 turn 10 0 1"), api.ErrShape},
		"a slot and a position":   {totals("0 turn 1 1 1"), api.ErrShape},
		"a position of a batter":  {totals("0 turn 0 1 1"), api.ErrShape},
		"another position":        {totals("0 pb 0 1 1"), api.ErrShape},
		"a great number":          {totals("0 turn 1 0 1000000000"), api.ErrRange},
		"a small number":          {totals("0 turn 1 0 -1000000000"), api.ErrRange},
		"0":                       {totals("0 turn 1 0 0"), api.ErrZero},
		"one twice":               {totals("0 turn 1 0 1", "0 turn 1 0 1"), api.ErrOrder},
		"one with two numbers":    {totals("0 turn 1 0 1", "0 turn 1 0 2"), api.ErrOrder},
		"sides in a wrong order":  {totals("1 turn 1 0 1", "0 bk 0 1 1"), api.ErrOrder},
		"kinds in a wrong order":  {totals("0 ab 1 0 1", "0 turn 9 0 1"), api.ErrOrder},
		"kinds by their letters":  {totals("0 a 0 9 1", "0 ab 1 0 1"), api.ErrOrder},
		"slots in a wrong order":  {totals("0 turn 2 0 1", "0 turn 1 0 1"), api.ErrOrder},
		"positions, wrong order":  {totals("0 po 0 2 1", "0 po 0 1 1"), api.ErrOrder},
		"a later one, wrong":      {totals("0 turn 1 0 1", "0 turn 3 0 1", "0 turn 2 0 1"), api.ErrOrder},
		"a side and a kind":       {totals("2 walk 0 0 0"), api.ErrSide},
		"a kind and a slot":       {totals("0 walk 0 0 0"), api.ErrKind},
		"a slot and a number":     {totals("0 turn 0 0 0"), api.ErrShape},
		"0 in a wrong order":      {totals("0 turn 2 0 1", "0 turn 1 0 0"), api.ErrZero},
		"a number, a wrong order": {totals("0 turn 2 0 1", "0 turn 1 0 1000000000"), api.ErrRange},
		"the first wrong one":     {totals("0 turn 2 0 1", "0 turn 1 0 1", "2 turn 1 0 1"), api.ErrOrder},
		"the first one":           {totals("0 turn 2 0 0", "2 turn 1 0 1"), api.ErrZero},
		"the greatest list":       {slices.Repeat(totals("0 turn 1 0 1"), credit.MaxTotals), api.ErrOrder},
		"too many":                {slices.Repeat(totals("0 turn 1 0 1"), credit.MaxTotals+1), api.ErrMany},
		"too many that are none":  {make([]credit.Total, credit.MaxTotals+1), api.ErrMany},
	}
}

func TestCheckTotals(t *testing.T) {
	for what, l := range map[string][]credit.Total{
		"nothing":           nil,
		"one":               totals("0 turn 1 0 1"),
		"negative":          totals("1 bk 0 1 -1"),
		"numbers at limits": totals("0 turn 1 0 999999999", "0 turn 2 0 -999999999"),
		"in order":          totals("0 turn 1 0 1", "0 turn 9 0 1", "0 ab 1 0 1", "0 po 0 1 1", "0 po 0 9 1", "0 a 0 1 1", "0 bk 0 1 1", "1 turn 1 0 1"),
		"all":               allTotals(1),
	} {
		want(t, "CheckTotals: "+what, credit.CheckTotals(l), api.OK)
	}
	for what, row := range wrongTotals() {
		want(t, "CheckTotals: "+what, credit.CheckTotals(row.l), row.err)
	}
	want(t, "how many totals there may be", len(allTotals(1)), 378)
}

func TestPlusAndMinus(t *testing.T) {
	for what, row := range map[string]struct {
		a, b, plus, minus []credit.Total
	}{
		"nothing":       {nil, nil, nil, nil},
		"the left one":  {totals("0 h 1 0 2"), nil, totals("0 h 1 0 2"), totals("0 h 1 0 2")},
		"the right one": {nil, totals("0 h 1 0 2"), totals("0 h 1 0 2"), totals("0 h 1 0 -2")},
		"the same":      {totals("0 h 1 0 2"), totals("0 h 1 0 2"), totals("0 h 1 0 4"), nil},
		"opposite":      {totals("0 h 1 0 -2"), totals("0 h 1 0 2"), nil, totals("0 h 1 0 -4")},
		"some vanish":   {totals("0 h 1 0 2", "0 h 2 0 3", "1 ra 0 1 5"), totals("0 h 1 0 -2", "0 h 2 0 3"), totals("0 h 2 0 6", "1 ra 0 1 5"), totals("0 h 1 0 4", "1 ra 0 1 5")},
		"sides":         {totals("1 h 1 0 2"), totals("0 h 1 0 3"), totals("0 h 1 0 3", "1 h 1 0 2"), totals("0 h 1 0 -3", "1 h 1 0 2")},
		"kinds":         {totals("0 d 1 0 2"), totals("0 h 1 0 3"), totals("0 h 1 0 3", "0 d 1 0 2"), totals("0 h 1 0 -3", "0 d 1 0 2")},
		"slots":         {totals("0 h 1 0 2", "0 h 3 0 2"), totals("0 h 2 0 1"), totals("0 h 1 0 2", "0 h 2 0 1", "0 h 3 0 2"), totals("0 h 1 0 2", "0 h 2 0 -1", "0 h 3 0 2")},
		"positions":     {totals("0 e 0 7 2"), totals("0 e 0 2 1", "0 e 0 7 1"), totals("0 e 0 2 1", "0 e 0 7 3"), totals("0 e 0 2 -1", "0 e 0 7 1")},
		"great numbers": {totals("0 h 1 0 999999998"), totals("0 h 1 0 1"), totals("0 h 1 0 999999999"), totals("0 h 1 0 999999997")},
		"small numbers": {totals("0 h 1 0 -999999998"), totals("0 h 1 0 -1"), totals("0 h 1 0 -999999999"), totals("0 h 1 0 -999999997")},
		"all":           {allTotals(7), allTotals(5), allTotals(12), allTotals(2)},
	} {
		s, e := credit.Plus(row.a, row.b)
		want(t, "the error of Plus: "+what, e, api.OK)
		want(t, "Plus: "+what, s, row.plus)
		s, e = credit.Minus(row.a, row.b)
		want(t, "the error of Minus: "+what, e, api.OK)
		want(t, "Minus: "+what, s, row.minus)
	}
}

func TestPlusAndMinusWrong(t *testing.T) {
	great, small, one := totals("0 h 1 0 999999999"), totals("0 h 1 0 -999999999"), totals("0 h 1 0 1")
	sure := func(what string, f func(a, b []credit.Total) ([]credit.Total, api.Errno), a, b []credit.Total, err api.Errno) {
		t.Helper()
		s, e := f(a, b)
		want(t, what, []any{len(s), e}, []any{0, err})
	}
	sure("Plus, too large", credit.Plus, great, one, api.ErrLarge)
	sure("Plus, too small", credit.Plus, small, totals("0 h 1 0 -1"), api.ErrLarge)
	sure("Plus, the last one too large", credit.Plus, append(totals("0 turn 1 0 1"), great...), append(totals("0 turn 1 0 -1"), great...), api.ErrLarge)
	sure("Minus, too large", credit.Minus, great, totals("0 h 1 0 -1"), api.ErrLarge)
	sure("Minus, too small", credit.Minus, small, one, api.ErrLarge)
	for what, row := range wrongTotals() {
		sure("Plus of "+what, credit.Plus, row.l, make([]credit.Total, credit.MaxTotals+1), row.err)
		sure("Plus of totals and "+what, credit.Plus, one, row.l, row.err)
		sure("Minus of "+what, credit.Minus, row.l, make([]credit.Total, credit.MaxTotals+1), row.err)
		sure("Minus of totals and "+what, credit.Minus, one, row.l, row.err)
	}
}

func TestOf(t *testing.T) {
	all := allTotals(1)
	for i := range all {
		all[i].N = i + 1
	}
	for i, x := range all {
		n, e := credit.Of(all, x.Side, x.Kind, x.Slot+x.Position)
		want(t, "Of", []any{n, e}, []any{i + 1, api.OK})
		n, e = credit.Of(slices.Delete(slices.Clone(all), i, i+1), x.Side, x.Kind, x.Slot+x.Position)
		want(t, "Of what is not there", []any{n, e}, []any{0, api.OK})
	}
	for what, row := range map[string]struct {
		side int
		kind string
		who  int
		err  api.Errno
	}{
		"a negative side":           {-1, "h", 1, api.ErrSide},
		"a great side":              {2, "walk", 1, api.ErrSide},
		"no kind":                   {0, "walk", 0, api.ErrKind},
		"an empty kind":             {0, "", 1, api.ErrKind},
		"no slot":                   {0, "h", 0, api.ErrShape},
		"a great slot":              {0, "lob", 10, api.ErrShape},
		"a negative slot":           {0, "h", -1, api.ErrShape},
		"the greatest slot":         {0, "h", math.MaxInt, api.ErrShape},
		"no position":               {0, "po", 0, api.ErrShape},
		"a great position":          {0, "dp", 10, api.ErrShape},
		"a negative position":       {0, "e", math.MinInt, api.ErrShape},
		"a pitcher who is catching": {0, "pb", 1, api.ErrShape},
		"a fielder who is catching": {0, "pb", 3, api.ErrShape},
		"a catcher who pitches":     {0, "out", 2, api.ErrShape},
		"nobody pitches":            {0, "bk", 0, api.ErrShape},
	} {
		n, e := credit.Of(all, row.side, row.kind, row.who)
		want(t, "Of: "+what, []any{n, e}, []any{0, row.err})
	}
	for what, row := range wrongTotals() {
		n, e := credit.Of(row.l, 2, "walk", 0)
		want(t, "Of: "+what, []any{n, e}, []any{0, row.err})
	}
}

func TestTeam(t *testing.T) {
	all := allTotals(1)
	sums := map[string]int{}
	for i := range all {
		all[i].N = i*i + 1
		sums[strconv.Itoa(all[i].Side)+all[i].Kind] += i*i + 1
	}
	for side := range 2 {
		for _, kind := range kindList {
			n, e := credit.Team(all, side, kind)
			want(t, "Team of "+kind, []any{n, e}, []any{sums[strconv.Itoa(side)+kind], api.OK})
			n, e = credit.Team(nil, side, kind)
			want(t, "Team of nothing", []any{n, e}, []any{0, api.OK})
		}
	}
	for what, row := range map[string]struct {
		l    []credit.Total
		side int
		kind string
		n    int
		err  api.Errno
	}{
		"negative":         {totals("0 h 1 0 3", "0 h 2 0 -5"), 0, "h", -2, api.OK},
		"the greatest":     {totals("0 h 1 0 999999998", "0 h 9 0 1"), 0, "h", 999999999, api.OK},
		"the least":        {totals("0 h 1 0 -999999998", "0 h 9 0 -1"), 0, "h", -999999999, api.OK},
		"on the way large": {totals("0 h 1 0 999999999", "0 h 2 0 999999999", "0 h 3 0 -999999999"), 0, "h", 999999999, api.OK},
		"too large":        {totals("0 h 1 0 999999999", "0 h 9 0 1"), 0, "h", 0, api.ErrLarge},
		"too small":        {totals("0 h 1 0 -999999999", "0 h 9 0 -1"), 0, "h", 0, api.ErrLarge},
		"of another kind":  {totals("0 h 1 0 999999999", "0 h 9 0 1"), 0, "d", 0, api.OK},
		"a negative side":  {nil, -1, "h", 0, api.ErrSide},
		"a great side":     {nil, 2, "walk", 0, api.ErrSide},
		"no kind":          {nil, 0, "walk", 0, api.ErrKind},
		"an empty kind":    {nil, 1, "", 0, api.ErrKind},
	} {
		n, e := credit.Team(row.l, row.side, row.kind)
		want(t, "Team: "+what, []any{n, e}, []any{row.n, row.err})
	}
	for what, row := range wrongTotals() {
		n, e := credit.Team(row.l, 2, "walk")
		want(t, "Team: "+what, []any{n, e}, []any{0, row.err})
	}
}

func TestBases(t *testing.T) {
	for what, row := range map[string]struct {
		l    []credit.Total
		side int
		slot int
		n    int
		err  api.Errno
	}{
		"nothing":          {nil, 0, 1, 0, api.OK},
		"a hit":            {totals("0 h 1 0 1"), 0, 1, 1, api.OK},
		"two bases":        {totals("0 h 1 0 1", "0 d 1 0 1"), 0, 1, 2, api.OK},
		"three bases":      {totals("0 h 1 0 1", "0 t 1 0 1"), 0, 1, 3, api.OK},
		"four bases":       {totals("0 h 1 0 1", "0 hr 1 0 1"), 0, 1, 4, api.OK},
		"all together":     {totals("1 h 9 0 100", "1 d 9 0 20", "1 t 9 0 5", "1 hr 9 0 7"), 1, 9, 151, api.OK},
		"of another slot":  {totals("0 h 1 0 1", "0 hr 3 0 1"), 0, 2, 0, api.OK},
		"of another side":  {totals("0 h 1 0 1", "1 h 1 0 3", "1 hr 1 0 3"), 0, 1, 1, api.OK},
		"of another kind":  {totals("0 turn 1 0 1", "0 ab 1 0 1", "0 r 1 0 1", "0 rbi 1 0 4", "0 ha 0 1 1"), 0, 1, 0, api.OK},
		"negative":         {totals("0 h 1 0 -1", "0 t 1 0 -1"), 0, 1, -3, api.OK},
		"the greatest":     {totals("0 h 1 0 999999996", "0 hr 1 0 1"), 0, 1, 999999999, api.OK},
		"the least":        {totals("0 h 1 0 -999999997", "0 t 1 0 -1"), 0, 1, -999999999, api.OK},
		"on the way large": {totals("0 h 1 0 999999999", "0 d 1 0 999999999", "0 t 1 0 -500000000"), 0, 1, 999999998, api.OK},
		"too large":        {totals("0 h 1 0 999999999", "0 d 1 0 1"), 0, 1, 0, api.ErrLarge},
		"too small":        {totals("0 h 1 0 -999999999", "0 d 1 0 -1"), 0, 1, 0, api.ErrLarge},
		"very large":       {totals("0 h 1 0 999999999", "0 d 1 0 999999999", "0 t 1 0 999999999", "0 hr 1 0 999999999"), 0, 1, 0, api.ErrLarge},
		"a negative side":  {nil, -1, 1, 0, api.ErrSide},
		"a great side":     {nil, 2, 0, 0, api.ErrSide},
		"no slot":          {nil, 0, 0, 0, api.ErrRange},
		"a great slot":     {nil, 0, 10, 0, api.ErrRange},
		"a negative slot":  {nil, 1, math.MinInt, 0, api.ErrRange},
	} {
		n, e := credit.Bases(row.l, row.side, row.slot)
		want(t, "Bases: "+what, []any{n, e}, []any{row.n, row.err})
	}
	for what, row := range wrongTotals() {
		n, e := credit.Bases(row.l, 2, 0)
		want(t, "Bases: "+what, []any{n, e}, []any{0, row.err})
	}
}
