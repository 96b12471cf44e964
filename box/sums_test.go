package box_test

import (
	"math"
	"strconv"
	"strings"
	"testing"

	"dugout/api"
	"dugout/box"
)

// greatest is a box whose numbers are as great as possible.
func greatest(n int) box.Box {
	b := box.Box{Lines: []box.Line{{Player: "a"}}, Innings: make([][2]int, 30), Rest: [2]int{n, n}}
	for kind := range b.Lines[0].Counts {
		b.Lines[0].Counts[kind] = n
	}
	for i := range b.Innings {
		b.Innings[i] = [2]int{n, n}
	}
	return b
}

// crew returns a box with so many lines, from a number on; each of them has a count of turns.
func crew(from, n, turns int) box.Box {
	var b box.Box
	for i := range n {
		b.Lines = append(b.Lines, line("0 p"+strconv.Itoa(1000+from+i)+" turn "+strconv.Itoa(turns)))
	}
	return b
}

func TestCheckBox(t *testing.T) {
	for what, b := range map[string]box.Box{
		"nothing":                  {},
		"innings and rest alone":   {Innings: make([][2]int, 30), Rest: [2]int{-3, 3}},
		"a count":                  {Lines: lines("0 a bk 1")},
		"a negative count":         {Lines: lines("1 a turn -1")},
		"the same name twice":      {Lines: lines("0 a turn 1", "1 a turn 1")},
		"a longer name":            {Lines: lines("0 a turn 1", "0 a0 turn 1", "0 a00 turn 1", "1 a turn 1")},
		"bytes in order":           {Lines: lines("0 Z turn 1", "0 a turn 1", "0 aZ turn 1", "0 a_ turn 1", "0 aa turn 1")},
		"a name of 24 bytes":       {Lines: lines("1 " + strings.Repeat("a", 24) + " turn 1")},
		"great numbers":            greatest(999999999),
		"small numbers":            greatest(-999999999),
		"as many lines as allowed": crew(0, box.MaxLines, 1),
	} {
		want(t, "CheckBox: "+what, box.CheckBox(b), api.OK)
	}
	for what, x := range wrongBoxes() {
		want(t, "CheckBox: "+what, box.CheckBox(x.box), x.err)
	}
	for kind := range box.MaxKinds {
		for _, n := range []int{1000000000, -1000000000, math.MaxInt, math.MinInt} {
			l := box.Line{Player: "a"}
			l.Counts[kind] = n
			want(t, "a wrong count", box.CheckBox(box.Box{Lines: []box.Line{l}}), api.ErrRange)
		}
	}
	for i := range 30 {
		for side := range 2 {
			b := greatest(1)
			b.Innings[i][side] = -1000000000
			want(t, "wrong runs", box.CheckBox(b), api.ErrRange)
		}
	}
}

// All functions return the error of a box before that of any other argument.
func TestWrongBoxes(t *testing.T) {
	for what, x := range wrongBoxes() {
		b, e := box.Merge(x.box, box.Box{Lines: make([]box.Line, 161)})
		want(t, "Merge: "+what, []any{isEmpty(b), e}, []any{true, x.err})
		b, e = box.Merge(greatest(1), x.box)
		want(t, "Merge with it: "+what, []any{isEmpty(b), e}, []any{true, x.err})
		b, e = box.Minus(x.box, box.Box{Lines: make([]box.Line, 161)})
		want(t, "Minus: "+what, []any{isEmpty(b), e}, []any{true, x.err})
		b, e = box.Minus(greatest(1), x.box)
		want(t, "Minus it: "+what, []any{isEmpty(b), e}, []any{true, x.err})
		side, n, e := box.Prove(x.box)
		want(t, "Prove: "+what, []any{side, n, e}, []any{0, 0, x.err})
		counts, e := box.Totals(x.box, 2)
		want(t, "Totals: "+what, []any{counts, e}, []any{[box.MaxKinds]int{}, x.err})
		l, e := box.LineOf(x.box, 2, "")
		want(t, "LineOf: "+what, []any{l, e}, []any{box.Line{}, x.err})
		text, e := box.Print(x.box)
		want(t, "Print: "+what, []any{text, e}, []any{"", x.err})
	}
}

func TestMergeAndMinus(t *testing.T) {
	a := box.Box{Lines: lines("0 a turn 2 ab 1", "0 c h 1", "1 a out 3 bk -1"), Innings: [][2]int{{1, 2}, {0, 3}}, Rest: [2]int{1, -1}}
	b := box.Box{Lines: lines("0 B w 1", "0 a turn 1 w 1", "0 c h -1", "1 a bk 1", "1 b po 2"), Innings: [][2]int{{5, 0}, {0, 1}, {-2, 0}}, Rest: [2]int{-1, 2}}
	for _, row := range []struct {
		what      string
		sum       box.Box
		a, b      box.Box
		operation func(a, b box.Box) (box.Box, api.Errno)
	}{
		{"a sum", box.Box{Lines: lines("0 B w 1", "0 a turn 3 ab 1 w 1", "1 a out 3", "1 b po 2"), Innings: [][2]int{{6, 2}, {0, 4}, {-2, 0}}, Rest: [2]int{0, 1}}, a, b, box.Merge},
		{"the sum the other way", box.Box{Lines: lines("0 B w 1", "0 a turn 3 ab 1 w 1", "1 a out 3", "1 b po 2"), Innings: [][2]int{{6, 2}, {0, 4}, {-2, 0}}, Rest: [2]int{0, 1}}, b, a, box.Merge},
		{"a difference", box.Box{Lines: lines("0 B w -1", "0 a turn 1 ab 1 w -1", "0 c h 2", "1 a out 3 bk -2", "1 b po -2"), Innings: [][2]int{{-4, 2}, {0, 2}, {2, 0}}, Rest: [2]int{2, -3}}, a, b, box.Minus},
		{"the difference the other way", box.Box{Lines: lines("0 B w 1", "0 a turn -1 ab -1 w 1", "0 c h -2", "1 a out -3 bk 2", "1 b po 2"), Innings: [][2]int{{4, -2}, {0, -2}, {-2, 0}}, Rest: [2]int{-2, 3}}, b, a, box.Minus},
		{"nothing more", a, a, box.Box{}, box.Merge},
		{"more than nothing", a, box.Box{}, a, box.Merge},
		{"nothing less", a, a, box.Box{}, box.Minus},
		{"less than nothing", box.Box{Lines: lines("0 a turn -2 ab -1", "0 c h -1", "1 a out -3 bk 1"), Innings: [][2]int{{-1, -2}, {0, -3}}, Rest: [2]int{-1, 1}}, box.Box{}, a, box.Minus},
		{"what is left of itself", box.Box{Innings: make([][2]int, 2)}, a, a, box.Minus},
		{"nothing and nothing", box.Box{}, box.Box{}, box.Box{}, box.Merge},
	} {
		sum, e := row.operation(row.a, row.b)
		want(t, "the error: "+row.what, e, api.OK)
		wantBox(t, row.what, sum, row.sum)
	}
}

// Innings of 0 stay at the end, and so do those that a difference leaves.
func TestInningsOfSums(t *testing.T) {
	part, _ := box.Part(shutout(), 0, 4)
	rest, _ := box.Part(shutout(), 4, 55)
	whole, _ := box.Compute(shutout())
	less, _ := box.Minus(whole, rest)
	want(t, "the lines of the first part", less.Lines, part.Lines)
	want(t, "the innings of the whole", less.Innings, append([][2]int{{1, 0}}, make([][2]int, 8)...))
	less, _ = box.Minus(whole, part)
	wantBox(t, "the second part", less, rest)
}

func TestSumsThatAreTooLarge(t *testing.T) {
	const most = 999999999
	for what, row := range map[string]struct {
		a, b        box.Box
		plus, minus api.Errno
	}{
		"160 lines":              {crew(0, 80, 1), crew(80, 80, 1), api.OK, api.OK},
		"161 lines":              {crew(0, 81, 1), crew(81, 80, 1), api.ErrMany, api.ErrMany},
		"lines that meet":        {crew(0, 160, 1), crew(0, 160, 2), api.OK, api.OK},
		"lines that leave":       {crew(0, 160, 1), crew(159, 100, -1), api.ErrMany, api.ErrMany},
		"one leaves, one comes":  {crew(0, 160, 1), crew(159, 2, -1), api.OK, api.ErrMany},
		"one comes, one leaves":  {crew(0, 160, 1), crew(159, 2, 1), api.ErrMany, api.OK},
		"large, and 161 lines":   {crew(0, 81, most), crew(80, 81, most), api.ErrMany, api.OK},
		"large":                  {crew(0, 81, most), crew(80, 80, most), api.ErrLarge, api.OK},
		"small, and 161 lines":   {crew(0, 81, most), crew(80, 81, -most), api.OK, api.ErrMany},
		"small":                  {crew(0, 81, most), crew(80, 80, -most), api.OK, api.ErrLarge},
		"a count":                {greatest(most), box.Box{Lines: lines("0 a bk 1")}, api.ErrLarge, api.OK},
		"a negative count":       {greatest(-most), box.Box{Lines: lines("0 a turn 1")}, api.OK, api.ErrLarge},
		"the runs of an inning":  {greatest(most), box.Box{Innings: append(make([][2]int, 28), [2]int{0, 1})}, api.ErrLarge, api.OK},
		"negative runs":          {greatest(-most), box.Box{Innings: [][2]int{{1, 0}}}, api.OK, api.ErrLarge},
		"a rest":                 {greatest(most), box.Box{Rest: [2]int{1, 0}}, api.ErrLarge, api.OK},
		"a negative rest":        {greatest(-most), box.Box{Rest: [2]int{0, 1}}, api.OK, api.ErrLarge},
		"just as large":          {greatest(most - 1), greatest(1), api.OK, api.OK},
		"large by far":           {greatest(most), greatest(most), api.ErrLarge, api.OK},
		"small by far":           {greatest(most), greatest(-most), api.OK, api.ErrLarge},
		"as large by difference": {greatest(1), greatest(-most + 1), api.OK, api.OK},
	} {
		sum, e := box.Merge(row.a, row.b)
		want(t, "Merge: "+what, []any{isEmpty(sum), e}, []any{row.plus != api.OK, row.plus})
		sum, e = box.Minus(row.a, row.b)
		want(t, "Minus: "+what, []any{isEmpty(sum), e}, []any{row.minus != api.OK, row.minus})
	}
}

func TestTotals(t *testing.T) {
	b := box.Box{Lines: lines("0 a turn 2 bk -1", "0 c turn 3 h 1", "1 a turn 7 out 3"), Innings: [][2]int{{1, 1}}, Rest: [2]int{1, 1}}
	for side, s := range []string{"0 x turn 5 h 1 bk -1", "1 x turn 7 out 3"} {
		counts, e := box.Totals(b, side)
		want(t, "Totals", []any{counts, e}, []any{line(s).Counts, api.OK})
	}
	counts, e := box.Totals(box.Box{Lines: lines("1 a turn 1")}, 0)
	want(t, "Totals of a side without players", []any{counts, e}, []any{[box.MaxKinds]int{}, api.OK})
	for _, side := range []int{-1, 2, math.MaxInt, math.MinInt} {
		counts, e := box.Totals(b, side)
		want(t, "Totals of no side", []any{counts, e}, []any{[box.MaxKinds]int{}, api.ErrSide})
	}
	for _, kind := range kindList {
		for _, n := range []string{"999999999", "-999999999"} {
			one := strings.TrimRight(n, "9") + "1"
			b := box.Box{Lines: lines("0 a "+kind+" "+n, "0 b "+kind+" "+one, "1 a "+kind+" "+n)}
			counts, e := box.Totals(b, 0)
			want(t, "Totals beyond a limit of "+kind, []any{counts, e}, []any{[box.MaxKinds]int{}, api.ErrLarge})
			counts, e = box.Totals(b, 1)
			want(t, "Totals at a limit of "+kind, []any{counts, e}, []any{b.Lines[2].Counts, api.OK})
		}
	}
	// A sum on the way may be too large.
	counts, e = box.Totals(box.Box{Lines: lines("1 a h 999999999", "1 b h 999999999", "1 c h -999999999")}, 1)
	want(t, "Totals that come back", []any{counts, e}, []any{line("1 x h 999999999").Counts, api.OK})
}

func TestLineOf(t *testing.T) {
	b := box.Box{Lines: lines("0 a turn 2", "0 c turn 3", "1 a turn 7 out 3")}
	for _, l := range b.Lines {
		got, e := box.LineOf(b, l.Side, l.Player)
		want(t, "LineOf", []any{got, e}, []any{l, api.OK})
	}
	for _, row := range []struct {
		side   int
		player string
		err    api.Errno
	}{
		{1, "c", api.ErrUnknown}, {0, "b", api.ErrUnknown}, {0, "A", api.ErrUnknown}, {0, "aa", api.ErrUnknown},
		{0, "", api.ErrName}, {1, "1", api.ErrName}, {0, "a ", api.ErrName}, {0, strings.Repeat("a", 25), api.ErrName}, {0, "\xff", api.ErrName},
		{2, "a", api.ErrSide}, {-1, "", api.ErrSide}, {math.MaxInt, "a", api.ErrSide},
	} {
		l, e := box.LineOf(b, row.side, row.player)
		want(t, "LineOf "+row.player, []any{l, e}, []any{box.Line{}, row.err})
	}
}
