package judge_test

import (
	"math"
	"slices"
	"strings"
	"testing"

	"dugout/api"
	"dugout/judge"
)

func TestPrint(t *testing.T) {
	for what, row := range map[string]struct {
		l    []api.Judgment
		text string
	}{
		"nothing":       {nil, ""},
		"one":           {rulings("0 0 hit 1 0"), "0 0 hit 1 0\n"},
		"in any order":  {rulings("7 1 life 0 6", "0 3 idle 0 0", "0 3 idle 0 0"), "7 1 life 0 6\n0 3 idle 0 0\n0 3 idle 0 0\n"},
		"great numbers": {rulings("999999999 2 wild 999999999 999999999"), "999999999 2 wild 999999999 999999999\n"},
		"all kinds":     {rulings("0 0 hit 0 0", "1 0 life 0 0", "2 0 error 0 0", "3 0 choice 0 0", "4 0 wild 0 0", "5 0 passed 0 0", "6 0 steal 0 0", "7 0 idle 0 0", "8 0 sacrifice 0 0"), "0 0 hit 0 0\n1 0 life 0 0\n2 0 error 0 0\n3 0 choice 0 0\n4 0 wild 0 0\n5 0 passed 0 0\n6 0 steal 0 0\n7 0 idle 0 0\n8 0 sacrifice 0 0\n"},
		"many":          {slices.Repeat(rulings("12 3 steal 0 0"), api.MaxJudgments), strings.Repeat("12 3 steal 0 0\n", api.MaxJudgments)},
	} {
		text, e := judge.Print(row.l)
		want(t, "Print: "+what, []any{text, e}, []any{row.text, api.OK})
		l, at, e := judge.Parse(row.text)
		want(t, "the error of Parse: "+what, []any{at, e}, []any{0, api.OK})
		same(t, "Parse: "+what, l, row.l)
	}
}

func TestPrintWrong(t *testing.T) {
	right := ruling("0 0 hit 1 0")
	for what, row := range map[string]struct {
		l   []api.Judgment
		err api.Errno
	}{
		"a negative play":           {rulings("-1 0 hit 1 0"), api.ErrRange},
		"a great play":              {rulings("1000000000 0 hit 1 0"), api.ErrRange},
		"the greatest play":         {[]api.Judgment{{Play: math.MaxInt, Kind: "hit", Rule: 1}}, api.ErrRange},
		"a negative base":           {rulings("0 0 hit -1 0"), api.ErrRange},
		"a great base":              {rulings("0 0 hit 1000000000 0"), api.ErrRange},
		"a negative fielder":        {rulings("0 0 hit 0 -1"), api.ErrRange},
		"a great fielder":           {rulings("0 0 hit 0 1000000000"), api.ErrRange},
		"a negative runner":         {rulings("0 -1 hit 0 0"), api.ErrRange},
		"a runner at home":          {rulings("0 4 hit 0 0"), api.ErrRange},
		"a range, and no kind":      {rulings("0 4 walk 0 0"), api.ErrRange},
		"no kind":                   {rulings("0 0 walk 0 0"), api.ErrKind},
		"an empty kind":             {make([]api.Judgment, 1), api.ErrKind},
		"no kind, and no rule":      {[]api.Judgment{withRule("0 0 walk 0 0", 1)}, api.ErrKind},
		"another rule":              {[]api.Judgment{withRule("0 0 hit 0 0", 2)}, api.ErrRule},
		"no rule":                   {[]api.Judgment{withRule("0 0 hit 0 0", 0)}, api.ErrRule},
		"the first wrong one":       {[]api.Judgment{right, withRule("0 0 hit 0 0", 9), ruling("0 0 walk 0 0")}, api.ErrRule},
		"the last one of many":      {append(slices.Repeat([]api.Judgment{right}, api.MaxJudgments-1), ruling("0 4 hit 0 0")), api.ErrRange},
		"too many":                  {slices.Repeat([]api.Judgment{right}, api.MaxJudgments+1), api.ErrMany},
		"too many that are nothing": {make([]api.Judgment, api.MaxJudgments+1), api.ErrMany},
	} {
		text, e := judge.Print(row.l)
		want(t, "Print: "+what, []any{text, e}, []any{"", row.err})
	}
}

func TestParseWrong(t *testing.T) {
	line := "0 0 hit 1 0\n"
	many := strings.Repeat(line, api.MaxJudgments)
	// A line of n bytes whose kind is none.
	long := func(n int) string { return "0 0 " + strings.Repeat("x", n-9) + " 0 0\n" }
	for what, row := range map[string]struct {
		text string
		at   int
		err  api.Errno
	}{
		"no line feed":                     {"0 0 hit 1 0", 0, api.ErrSyntax},
		"no line feed at the end":          {line + line + "0 0 hit 1 0", 2, api.ErrSyntax},
		"a line feed alone":                {"\n", 0, api.ErrSyntax},
		"an empty line":                    {line + "\n" + line, 1, api.ErrSyntax},
		"a blank alone":                    {" \n", 0, api.ErrSyntax},
		"four words":                       {"0 0 hit 1\n", 0, api.ErrSyntax},
		"six words":                        {"0 0 hit 1 0 0\n", 0, api.ErrSyntax},
		"a blank in front":                 {" 0 0 hit 1 0\n", 0, api.ErrSyntax},
		"a blank at the end":               {"0 0 hit 1 0 \n", 0, api.ErrSyntax},
		"two blanks":                       {"0 0  hit 1 0\n", 0, api.ErrSyntax},
		"an empty play":                    {" 0 hit 1 0\n", 0, api.ErrSyntax},
		"an empty kind":                    {"0 0  1 0\n", 0, api.ErrSyntax},
		"an empty fielder":                 {"0 0 hit 1 \n", 0, api.ErrSyntax},
		"a tabulator":                      {"0\t0 hit 1 0\n", 0, api.ErrSyntax},
		"a carriage return":                {"0 0 hit 1 0\r\n", 0, api.ErrSyntax},
		"a play with zeros":                {"00 0 hit 1 0\n", 0, api.ErrSyntax},
		"a runner with zeros":              {"0 01 hit 1 0\n", 0, api.ErrSyntax},
		"a base with zeros":                {"0 0 hit 01 0\n", 0, api.ErrSyntax},
		"a fielder with zeros":             {"0 0 hit 1 00\n", 0, api.ErrSyntax},
		"a negative play":                  {"-1 0 hit 1 0\n", 0, api.ErrSyntax},
		"a negative runner":                {"0 -1 hit 1 0\n", 0, api.ErrSyntax},
		"a sign":                           {"+1 0 hit 1 0\n", 0, api.ErrSyntax},
		"a letter":                         {"0 0 hit a 0\n", 0, api.ErrSyntax},
		"a letter behind a digit":          {"0 0 hit 1 0a\n", 0, api.ErrSyntax},
		"a byte before the digits":         {"0 0 hit / 0\n", 0, api.ErrSyntax},
		"a byte behind the digits":         {"0 0 hit : 0\n", 0, api.ErrSyntax},
		"another digit":                    {"\u0661 0 hit 1 0\n", 0, api.ErrSyntax},
		"no rune":                          {"\xff 0 hit 1 0\n", 0, api.ErrSyntax},
		"ten digits":                       {"1000000000 0 hit 1 0\n", 0, api.ErrSyntax},
		"ten digits of a base":             {"0 0 hit 1000000000 0\n", 0, api.ErrSyntax},
		"ten digits of a fielder":          {"0 0 hit 0 1000000000\n", 0, api.ErrSyntax},
		"many digits":                      {"0 " + strings.Repeat("9", 40) + " hit 0 0\n", 0, api.ErrSyntax},
		"a number of 64 bits":              {"18446744073709551617 0 hit 0 0\n", 0, api.ErrSyntax},
		"a great runner":                   {"0 4 hit 1 0\n", 0, api.ErrRange},
		"nine digits of a runner":          {line + "0 999999999 hit 1 0\n", 1, api.ErrRange},
		"a runner, and no kind":            {"0 4 walk 1 0\n", 0, api.ErrRange},
		"no kind":                          {"0 0 walk 1 0\n", 0, api.ErrKind},
		"a kind in capitals":               {"0 0 Hit 1 0\n", 0, api.ErrKind},
		"a kind with a tabulator":          {"0 0 hit\t 1 0\n", 0, api.ErrKind},
		"a kind that is no string of UTF8": {"0 0 \xff 1 0\n", 0, api.ErrKind},
		"the first wrong line":             {line + "0 0 walk 1 0\n" + "0 4 hit 1 0\n", 1, api.ErrKind},
		"one more":                         {many + line, api.MaxJudgments, api.ErrMany},
		"one more, and a syntax":           {many + "0 0 hit 1\n", api.MaxJudgments, api.ErrSyntax},
		"one more without a line feed":     {many + "0 0 hit 1 0", api.MaxJudgments, api.ErrSyntax},
		"one more, and a runner":           {many + "0 4 hit 1 0\n", api.MaxJudgments, api.ErrMany},
		"one more, and no kind":            {many + "0 0 walk 1 0\n", api.MaxJudgments, api.ErrMany},
		"the last line of many":            {many[len(line):] + "0 4 hit 1 0\n", api.MaxJudgments - 1, api.ErrRange},
		"a long string":                    {long(api.MaxLog), 0, api.ErrKind},
		"a longer string":                  {long(api.MaxLog + 1), 0, api.ErrLong},
		"a long one with a wrong line":     {many + strings.Repeat("x", api.MaxLog), 0, api.ErrLong},
	} {
		l, at, e := judge.Parse(row.text)
		want(t, "Parse: "+what, []any{len(l), at, e}, []any{0, row.at, row.err})
	}
}
