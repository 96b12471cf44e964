package lineup_test

import (
	"strconv"
	"strings"
	"testing"

	"dugout/api"
	"dugout/lineup"
)

// text is that of the teams and changes of the examples.
const text = `0 1 a1 2
0 2 a2 3
0 3 a3 4
0 4 a4 5
0 5 a5 6
0 6 a6 7
0 7 a7 8
0 8 a8 9
0 9 a9 1
1 1 b1 2
1 2 b2 3
1 3 b3 4
1 4 b4 5
1 5 b5 6
1 6 b6 7
1 7 b7 8
1 8 b8 9
1 9 b9 1
at 2 1 1 c1 9
at 2 1 8 b8 2
at 4 1 9 c9 1
`

// slotText is the part of the text with the lines of slots.
var slotText = text[:18*len("0 1 a1 2\n")]

func TestPrint(t *testing.T) {
	s, e := lineup.Print(teams(), calls())
	want(t, "the text of the examples", []any{s, e}, []any{text, api.OK})
	s, e = lineup.Print(teams(), nil)
	want(t, "the text of teams", []any{s, e}, []any{slotText, api.OK})
	s, _ = lineup.Print(teams(), []lineup.Change{at(0, 0, 9, "c", 1), at(256, 1, 9, "D_9", 1)})
	want(t, "the text of changes", s, slotText+"at 0 0 9 c 1\nat 256 1 9 D_9 1\n")
}

func TestParse(t *testing.T) {
	x, l, at, e := lineup.Parse(text)
	want(t, "the error of the examples", []any{at, e}, []any{0, api.OK})
	want(t, "the teams of the examples", x, teams())
	want(t, "the changes of the examples", l, calls())
	x, l, at, e = lineup.Parse(slotText)
	want(t, "teams alone", []any{x, len(l), at, e}, []any{teams(), 0, 0, api.OK})
}

// replaced returns the text with another line at an index.
func replaced(at int, line string) string {
	lines := strings.SplitAfter(text, "\n")
	lines[at] = line
	return strings.Join(lines, "")
}

func TestParseWrongTexts(t *testing.T) {
	for what, row := range map[string]struct {
		text string
		at   int
		err  api.Errno
	}{
		"nothing":                       {"", 0, api.ErrTorn},
		"a line":                        {text[:9], 1, api.ErrTorn},
		"17 lines":                      {slotText[:17*9], 17, api.ErrTorn},
		"a line without its end":        {text[:8], 0, api.ErrSyntax},
		"a line, and half of one":       {text[:13], 1, api.ErrSyntax},
		"the last slot without its end": {slotText[:18*9-1], 17, api.ErrSyntax},
		"no line feed at the end":       {text[:len(text)-1], 20, api.ErrSyntax},
		"a line is missing":             {text[9:], 0, api.ErrSyntax},
		"a line of a slot twice":        {slotText + text[:9], 18, api.ErrSyntax},
		"a change too early":            {"at 2 1 1 c1 9\n" + text, 0, api.ErrSyntax},
		"two sides exchanged":           {slotText[81:] + slotText[:81], 0, api.ErrSyntax},
		"a line feed alone":             {"\n", 0, api.ErrSyntax},
		"an empty line at the end":      {text + "\n", 21, api.ErrSyntax},
		"a blank at the end":            {replaced(3, "0 4 a4 5 \n"), 3, api.ErrSyntax},
		"a blank at the beginning":      {replaced(3, " 0 4 a4 5\n"), 3, api.ErrSyntax},
		"two blanks":                    {replaced(3, "0 4  a4 5\n"), 3, api.ErrSyntax},
		"no player":                     {replaced(3, "0 4  5\n"), 3, api.ErrSyntax},
		"three words":                   {replaced(3, "0 4 5\n"), 3, api.ErrSyntax},
		"a tab for a blank":             {replaced(3, "0 4\ta4 5\n"), 3, api.ErrSyntax},
		"another side":                  {replaced(3, "1 4 a4 5\n"), 3, api.ErrSyntax},
		"another slot":                  {replaced(3, "0 5 a4 5\n"), 3, api.ErrSyntax},
		"a slot above 9":                {replaced(9, "0 10 b1 2\n"), 9, api.ErrSyntax},
		"no side":                       {replaced(9, "2 1 b1 2\n"), 9, api.ErrSyntax},
		"a side with a zero":            {replaced(9, "01 1 b1 2\n"), 9, api.ErrSyntax},
		"a position with a zero":        {replaced(9, "1 1 b1 02\n"), 9, api.ErrSyntax},
		"a position with a sign":        {replaced(9, "1 1 b1 +2\n"), 9, api.ErrSyntax},
		"a position below 0":            {replaced(9, "1 1 b1 -2\n"), 9, api.ErrSyntax},
		"a position of 10 digits":       {replaced(9, "1 1 b1 1000000000\n"), 9, api.ErrSyntax},
		"a position of 40 digits":       {replaced(9, "1 1 b1 "+strings.Repeat("2", 40)+"\n"), 9, api.ErrSyntax},
		"a position that is none":       {replaced(9, "1 1 b1 x\n"), 9, api.ErrSyntax},
		"a digit that is none":          {replaced(9, "1 1 b1 ٢\n"), 9, api.ErrSyntax},
		"a byte behind the digits":      {replaced(9, "1 1 b1 2:\n"), 9, api.ErrSyntax},
		"a byte before the digits":      {replaced(9, "1 1 b1 /2\n"), 9, api.ErrSyntax},
		"a return at the end":           {replaced(9, "1 1 b1 2\r\n"), 9, api.ErrSyntax},
		"a position of 9 digits":        {replaced(9, "1 1 b1 999999999\n"), 0, api.ErrRange},
		"a position 0":                  {replaced(9, "1 1 b1 0\n"), 0, api.ErrRange},
		"a player that is no name":      {replaced(9, "1 1 b\xff\t: 2\n"), 0, api.ErrName},
		"a player as long as can be":    {replaced(9, "1 1 "+strings.Repeat("b", 4096-len(text)+2)+" 2\n"), 0, api.ErrName},
		"a string that is too long":     {replaced(9, "1 1 "+strings.Repeat("b", 4097-len(text)+2)+" 2\n"), 0, api.ErrLong},
		"4096 bytes of nothing":         {string(make([]byte, 4096)), 0, api.ErrSyntax},
		"4097 bytes of nothing":         {string(make([]byte, 4097)), 0, api.ErrLong},
		"a player twice":                {replaced(9, "1 1 b2 2\n"), 0, api.ErrTwice},
		"a player on both sides":        {replaced(9, "1 1 a1 2\n"), 0, api.ErrTwice},
		"a position twice":              {replaced(9, "1 1 b1 3\n"), 0, api.ErrConflict},
		"another word":                  {replaced(19, "on 2 1 8 b8 2\n"), 19, api.ErrSyntax},
		"a great letter":                {replaced(19, "At 2 1 8 b8 2\n"), 19, api.ErrSyntax},
		"no word":                       {replaced(19, "2 1 8 b8 2\n"), 19, api.ErrSyntax},
		"a change with 5 words":         {replaced(19, "at 2 1 8 2\n"), 19, api.ErrSyntax},
		"a change with 7 words":         {replaced(19, "at 2 1 8 b8 2 2\n"), 19, api.ErrSyntax},
		"a change without a player":     {replaced(19, "at 2 1 8  2\n"), 19, api.ErrSyntax},
		"a play with a zero":            {text + "at 04 1 9 d 1\n", 21, api.ErrSyntax},
		"a play that is none":           {text + "at x 1 9 d 1\n", 21, api.ErrSyntax},
		"a side that is none":           {text + "at 5 x 9 d 1\n", 21, api.ErrSyntax},
		"a slot that is none":           {text + "at 5 1 x d 1\n", 21, api.ErrSyntax},
		"a change to no position":       {text + "at 5 1 9 d x\n", 21, api.ErrSyntax},
		"a change without its end":      {text + "at 5 1 9 d 1", 21, api.ErrSyntax},
		"the first of two wrong lines":  {replaced(19, "?\n") + "?\n", 19, api.ErrSyntax},
		"a wrong line before all else":  {replaced(0, "0 1 a2 2\n") + "?\n", 21, api.ErrSyntax},
		"a wrong order":                 {text + "at 4 1 9 d 1\n", 0, api.ErrOrder},
		"a side of 9 digits":            {text + "at 5 999999999 9 d 1\n", 0, api.ErrSide},
		"a play of 9 digits":            {text + "at 999999999 1 9 d 1\n", 0, api.ErrRange},
		"a slot 0":                      {text + "at 5 1 0 d 1\n", 0, api.ErrRange},
		"a change to no name":           {text + "at 5 1 9 9 1\n", 0, api.ErrName},
		"who was in the game":           {text + "at 5 1 9 b9 1\n", 0, api.ErrPlayer},
		"65 changes":                    {slotText + strings.Repeat("at 0 0 1 c 2\n", 65), 0, api.ErrMany},
	} {
		x, l, at, e := lineup.Parse(row.text)
		want(t, what, []any{at, e}, []any{row.at, row.err})
		want(t, what+", the results", []any{x, len(l)}, []any{lineup.Teams{}, 0})
	}
}

func TestTheLongestText(t *testing.T) {
	x := teams()
	name := func(n int) string { return "p" + strings.Repeat("_", 20) + strconv.Itoa(100+n) }
	for i := range 18 {
		x[i/9].Batters[i%9] = name(i)
	}
	var l []lineup.Change
	for i := range 64 {
		l = append(l, at(190+i, i%2, 9, name(18+i), 1))
	}
	s, e := lineup.Print(x, l)
	want(t, "the error of the longest text", e, api.OK)
	y, m, line, e := lineup.Parse(s)
	want(t, "the longest text", []any{y, m, line, e}, []any{x, l, 0, api.OK})
}
