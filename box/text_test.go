package box_test

import (
	"strings"
	"testing"

	"dugout/api"
	"dugout/box"
)

// zeros are the words of counts that are 0.
func zeros(n int) string {
	return strings.Repeat(" 0", n)
}

func TestPrintAndParse(t *testing.T) {
	all := line("1 Zz_9 turn 1")
	for kind := range all.Counts {
		all.Counts[kind] = (kind + 1) * (1 - 2*(kind%2))
	}
	great := " 999999999:999999999"
	for what, row := range map[string]struct {
		box  box.Box
		text string
	}{
		"nothing":        {box.Box{}, "innings\nrest 0 0\n"},
		"innings":        {box.Box{Innings: [][2]int{{0, 0}, {10, 2}, {-3, 0}, {0, -1}}}, "innings 0:0 10:2 -3:0 0:-1\nrest 0 0\n"},
		"a rest":         {box.Box{Rest: [2]int{-1, 3}}, "innings\nrest -1 3\n"},
		"a line":         {box.Box{Lines: lines("0 a turn 1")}, "innings\nrest 0 0\nline 0 a 1" + zeros(28) + "\n"},
		"lines":          {box.Box{Lines: lines("0 a bk -2", "1 A ab 12")}, "innings\nrest 0 0\nline 0 a" + zeros(28) + " -2\nline 1 A 0 12" + zeros(27) + "\n"},
		"all counts":     {box.Box{Lines: []box.Line{all}}, "innings\nrest 0 0\nline 1 Zz_9 1 -2 3 -4 5 -6 7 -8 9 -10 11 -12 13 -14 15 -16 17 -18 19 -20 21 -22 23 -24 25 -26 27 -28 29\n"},
		"great numbers":  {greatest(999999999), "innings" + strings.Repeat(great, 30) + "\nrest 999999999 999999999\nline 0 a" + strings.Repeat(" 999999999", 29) + "\n"},
		"small numbers":  {greatest(-999999999), strings.ReplaceAll("innings"+strings.Repeat(great, 30)+"\nrest 999999999 999999999\nline 0 a"+strings.Repeat(" 999999999", 29)+"\n", "999999999", "-999999999")},
		"the game G":     {sumOf(t, example()), "innings 1:0\nrest 1 0\nline 0 a1 1 1 1 0 0 0 1" + zeros(22) + "\nline 0 a2 1 1 1 1 0 0 0 1" + zeros(21) + "\nline 1 b9" + zeros(22) + " 2 0 0 0 1 1 0\n"},
		"a game of none": {sumOf(t, gameOf()), "innings\nrest 0 0\n"},
	} {
		text, e := box.Print(row.box)
		want(t, "Print: "+what, []any{text, e}, []any{row.text, api.OK})
		b, at, e := box.Parse(row.text)
		want(t, "the error of Parse: "+what, []any{at, e}, []any{0, api.OK})
		wantBox(t, "Parse: "+what, b, row.box)
	}
}

// sumOf returns the box of a game.
func sumOf(t *testing.T, g box.Game) box.Box {
	t.Helper()
	b, e := box.Compute(g)
	want(t, "the error of Compute", e, api.OK)
	return b
}

// A line that does not have its form is told by its index, before all errors of the box.
func TestParseWrongLines(t *testing.T) {
	head := "innings\nrest 0 0\n"
	counts := " 1" + zeros(28)
	for what, row := range map[string]struct {
		text string
		at   int
		err  api.Errno
	}{
		"nothing":                             {"", 0, api.ErrTorn},
		"innings alone":                       {"innings 1:0\n", 1, api.ErrTorn},
		"innings without a line feed":         {"innings", 0, api.ErrSyntax},
		"a rest without a line feed":          {"innings\nrest 0 0", 1, api.ErrSyntax},
		"a line without a line feed":          {head + "line 0 a" + counts, 2, api.ErrSyntax},
		"a second line without one":           {head + "line 0 a" + counts + "\nline", 3, api.ErrSyntax},
		"a line feed alone":                   {"\n", 0, api.ErrSyntax},
		"an empty line":                       {head + "\n", 2, api.ErrSyntax},
		"an empty line in between":            {"innings\n\nrest 0 0\n", 1, api.ErrSyntax},
		"the rest first":                      {"rest 0 0\ninnings\n", 0, api.ErrSyntax},
		"no innings":                          {"rest 0 0\n", 0, api.ErrSyntax},
		"innings twice":                       {"innings\ninnings\n", 1, api.ErrSyntax},
		"rest twice":                          {head + "rest 0 0\n", 2, api.ErrSyntax},
		"no rest":                             {"innings\nline 0 a" + counts + "\n", 1, api.ErrSyntax},
		"a capital":                           {"Innings\nrest 0 0\n", 0, api.ErrSyntax},
		"a longer word":                       {"inningss\nrest 0 0\n", 0, api.ErrSyntax},
		"a carriage return":                   {"innings\r\nrest 0 0\n", 0, api.ErrSyntax},
		"a blank in front":                    {" innings\nrest 0 0\n", 0, api.ErrSyntax},
		"a blank at the end":                  {"innings \nrest 0 0\n", 0, api.ErrSyntax},
		"a blank at the end of an inning":     {"innings 1:0 \nrest 0 0\n", 0, api.ErrSyntax},
		"two blanks":                          {"innings  1:0\nrest 0 0\n", 0, api.ErrSyntax},
		"a tabulator":                         {"innings\t1:0\nrest 0 0\n", 0, api.ErrSyntax},
		"one number of runs":                  {"innings 1\nrest 0 0\n", 0, api.ErrSyntax},
		"three numbers of runs":               {"innings 1:0:0\nrest 0 0\n", 0, api.ErrSyntax},
		"no first runs":                       {"innings :0\nrest 0 0\n", 0, api.ErrSyntax},
		"no second runs":                      {"innings 1:0 1:\nrest 0 0\n", 0, api.ErrSyntax},
		"other runs":                          {"innings 1-0\nrest 0 0\n", 0, api.ErrSyntax},
		"blanks within runs":                  {"innings 1: 0\nrest 0 0\n", 0, api.ErrSyntax},
		"runs of -0":                          {"innings 1:-0\nrest 0 0\n", 0, api.ErrSyntax},
		"runs with zeros":                     {"innings 01:0\nrest 0 0\n", 0, api.ErrSyntax},
		"runs with a sign":                    {"innings 0:+1\nrest 0 0\n", 0, api.ErrSyntax},
		"runs of ten digits":                  {"innings 0:1000000000\nrest 0 0\n", 0, api.ErrSyntax},
		"rest without numbers":                {"innings\nrest\n", 1, api.ErrSyntax},
		"rest with one number":                {"innings\nrest 0\n", 1, api.ErrSyntax},
		"rest with three numbers":             {"innings\nrest 0 0 0\n", 1, api.ErrSyntax},
		"rest with a colon":                   {"innings\nrest 0:0\n", 1, api.ErrSyntax},
		"rest of -0":                          {"innings\nrest -0 0\n", 1, api.ErrSyntax},
		"rest of a sign":                      {"innings\nrest 0 -\n", 1, api.ErrSyntax},
		"rest of two signs":                   {"innings\nrest 0 --1\n", 1, api.ErrSyntax},
		"rest with a letter":                  {"innings\nrest 0 1a\n", 1, api.ErrSyntax},
		"rest with an underscore":             {"innings\nrest 0 1_0\n", 1, api.ErrSyntax},
		"rest with another base":              {"innings\nrest 0 0x1\n", 1, api.ErrSyntax},
		"rest with another digit":             {"innings\nrest 0 \u0661\n", 1, api.ErrSyntax},
		"rest of ten digits":                  {"innings\nrest 0 -1000000000\n", 1, api.ErrSyntax},
		"rest of more than 64 bits":           {"innings\nrest 0 18446744073709551617\n", 1, api.ErrSyntax},
		"rest of ten zeros":                   {"innings\nrest 0 0000000000\n", 1, api.ErrSyntax},
		"a line alone":                        {head + "line\n", 2, api.ErrSyntax},
		"28 counts":                           {head + "line 0 a 1" + zeros(27) + "\n", 2, api.ErrSyntax},
		"30 counts":                           {head + "line 0 a 1" + zeros(29) + "\n", 2, api.ErrSyntax},
		"no player":                           {head + "line 0" + counts + "\n", 2, api.ErrSyntax},
		"an empty player":                     {head + "line 0 " + counts + "\n", 2, api.ErrSyntax},
		"two players":                         {head + "line 0 a b" + zeros(28) + "\n", 2, api.ErrSyntax},
		"an empty side":                       {head + "line  a" + counts + "\n", 2, api.ErrSyntax},
		"a side with zeros":                   {head + "line 00 a" + counts + "\n", 2, api.ErrSyntax},
		"a side that is none":                 {head + "line a 0" + counts + "\n", 2, api.ErrSyntax},
		"a side of ten digits":                {head + "line 1000000000 a" + counts + "\n", 2, api.ErrSyntax},
		"a count that is none":                {head + "line 0 a" + zeros(28) + " x\n", 2, api.ErrSyntax},
		"a count of -0":                       {head + "line 0 a -0" + counts[2:] + "\n", 2, api.ErrSyntax},
		"a count of -00":                      {head + "line 0 a" + zeros(28) + " -00\n", 2, api.ErrSyntax},
		"a count of -01":                      {head + "line 0 a" + zeros(28) + " -01\n", 2, api.ErrSyntax},
		"a count of ten digits":               {head + "line 0 a" + zeros(28) + " 1000000000\n", 2, api.ErrSyntax},
		"an empty count":                      {head + "line 0 a 1 " + zeros(27) + "\n", 2, api.ErrSyntax},
		"a count and a blank":                 {head + "line 0 a" + counts + " \n", 2, api.ErrSyntax},
		"the first wrong line":                {"innings\nrest 0\nline\n", 1, api.ErrSyntax},
		"the last of many lines":              {head + strings.Repeat("line 0 a"+counts+"\n", 200) + "line\n", 202, api.ErrSyntax},
		"a wrong line behind a wrong box":     {"innings" + strings.Repeat(" 1:1", 31) + "\nrest 0 0\nline 7 7" + zeros(29) + "\nline\n", 3, api.ErrSyntax},
		"as many bytes as possible, no lines": {strings.Repeat("x", api.MaxLog), 0, api.ErrSyntax},
		"a byte more":                         {strings.Repeat("x", api.MaxLog+1), 0, api.ErrLong},
		"a byte more behind a box":            {head + strings.Repeat("\n", api.MaxLog+1-len(head)), 0, api.ErrLong},
		"as many bytes as possible":           {head + strings.Repeat("\n", api.MaxLog-len(head)), 2, api.ErrSyntax},
	} {
		b, at, e := box.Parse(row.text)
		want(t, "Parse: "+what, []any{isEmpty(b), at, e}, []any{true, row.at, row.err})
	}
}

// If all lines have their form, the error of the box is told, with the index 0.
func TestParseWrongBoxes(t *testing.T) {
	head := "innings\nrest 0 0\n"
	counts := " 1" + zeros(28) + "\n"
	for what, row := range map[string]struct {
		text string
		err  api.Errno
	}{
		"161 lines":              {head + strings.Repeat("line 0 a"+counts, 161), api.ErrMany},
		"160 lines":              {head + strings.Repeat("line 0 a"+counts, 160), api.ErrOrder},
		"side 2":                 {head + "line 2 7" + counts, api.ErrSide},
		"side -1":                {head + "line -1 a" + counts, api.ErrSide},
		"a side of nine digits":  {head + "line 999999999 a" + counts, api.ErrSide},
		"a player who is none":   {head + "line 0 7" + counts, api.ErrName},
		"a player of any bytes":  {head + "line 0 \t\xff:\r" + counts, api.ErrName},
		"a long player":          {head + "line 0 " + strings.Repeat("a", 900000) + counts, api.ErrName},
		"no counts":              {head + "line 0 a" + zeros(29) + "\n", api.ErrZero},
		"a wrong order":          {head + "line 0 b" + counts + "line 0 a" + counts, api.ErrOrder},
		"31 innings":             {"innings" + strings.Repeat(" 1:1", 31) + "\nrest 0 0\n", api.ErrMany},
		"31 innings, and a line": {"innings" + strings.Repeat(" 1:1", 31) + "\nrest 0 0\nline 2 7" + counts, api.ErrSide},
		"very many innings":      {"innings" + strings.Repeat(" 1:1", 240000) + "\nrest 0 0\n", api.ErrMany},
	} {
		b, at, e := box.Parse(row.text)
		want(t, "Parse: "+what, []any{isEmpty(b), at, e}, []any{true, 0, row.err})
	}
	text := head + "line 0 a" + counts
	b, at, e := box.Parse("innings" + strings.Repeat(" 1:1", 30) + text[7:])
	want(t, "30 innings", []any{len(b.Innings), len(b.Lines), at, e}, []any{30, 1, 0, api.OK})
}
