package season_test

import (
	"strings"
	"testing"

	"dugout/api"
	"dugout/season"
)

const (
	head   = "g 1 5 a b 3 2\n"
	zeros  = " 0 0 0 0 0 0 0 0 0 0 0 0\n"
	zeros9 = " 0 0 0 0 0 0 0 0 0\n"
)

func TestPrintAndParse(t *testing.T) {
	long := strings.Repeat("z", 24)
	all := " 1 2 3 4 5 6 7 8 9 10 11 12\n"
	for what, row := range map[string]struct {
		game season.Game
		text string
	}{
		"the game G":    {gameG(), "g1 1 5 cats dogs 3 2\nann cats 4 2 0 0 0 1 0 0 0 0 0 0\nbob dogs 3 1 0 0 1 1 0 0 0 0 0 0\n"},
		"the game H":    {gameH(), "g2 1 6 dogs cats 1 1\nann cats 4 0 0 0 0 0 0 0 0 0 0 0\n"},
		"no lines":      {game("g 1 5 a b 3 2"), head},
		"small numbers": {game("Z_9 1 0 b a 0 0"), "Z_9 1 0 b a 0 0\n"},
		"great numbers": {game("g 999999999 99999 b a 999 998", "x a ab 999 e 999"), "g 999999999 99999 b a 999 998\nx a 999 0 0 0 0 0 0 0 0 0 0 999\n"},
		"all counts":    {game("g 1 5 a b 3 2", "x b ab 1 h 2 d 3 t 4 hr 5 r 6 rbi 7 w 8 k 9 sb 10 po 11 e 12"), head + "x b" + all},
		"long names":    {game(long+" 7 8 "+long+" y 9 10", long+" "+long), long + " 7 8 " + long + " y 9 10\n" + long + " " + long + zeros},
		"60 lines":      {with(func(g *season.Game) { g.Lines = crowd(60) }), "g1 1 5 cats dogs 3 2\n" + crowdText(60)},
	} {
		text, e := season.Print(row.game)
		want(t, "Print: "+what, []any{text, e}, []any{row.text, api.OK})
		g, at, e := season.Parse(row.text)
		want(t, "the error of Parse: "+what, []any{at, e}, []any{0, api.OK})
		wantGame(t, "Parse: "+what, g, row.game)
	}
}

// crowdText returns the lines of a crowd.
func crowdText(n int) string {
	var text strings.Builder
	for _, l := range crowd(n) {
		text.WriteString(l.Player + " " + l.Team + zeros)
	}
	return text.String()
}

func isNoGame(g season.Game) bool {
	return g.Name == "" && g.Version == 0 && g.Day == 0 && g.Teams == [2]string{} && g.Score == [2]int{} && len(g.Lines) == 0
}

// A line that does not have its form is told by its index, before all errors of the game.
func TestParseWrongLines(t *testing.T) {
	one := "x a" + zeros
	for what, row := range map[string]struct {
		text string
		at   int
		err  api.Errno
	}{
		"nothing":                        {"", 0, api.ErrSyntax},
		"an empty line":                  {"\n", 0, api.ErrSyntax},
		"no line feed":                   {"g 1 5 a b 3 2", 0, api.ErrSyntax},
		"six words":                      {"g 1 5 a b 3\n", 0, api.ErrSyntax},
		"eight words":                    {"g 1 5 a b 3 2 1\n", 0, api.ErrSyntax},
		"a blank at the end":             {"g 1 5 a b 3 2 \n", 0, api.ErrSyntax},
		"a blank at the front":           {" g 1 5 a b 3 2\n", 0, api.ErrSyntax},
		"two blanks":                     {"g 1  5 a b 3 2\n", 0, api.ErrSyntax},
		"a blank in place of a word":     {"g  5 a b 3 2\n", 0, api.ErrSyntax},
		"a tabulator":                    {"g\t1 5 a b 3 2\n", 0, api.ErrSyntax},
		"a carriage return":              {"g 1 5 a b 3 2\r\n", 0, api.ErrSyntax},
		"a line of a player in front":    {one + head, 0, api.ErrSyntax},
		"an empty line in front":         {"\n" + head, 0, api.ErrSyntax},
		"an empty line behind":           {head + "\n", 1, api.ErrSyntax},
		"a second head":                  {head + head, 1, api.ErrSyntax},
		"a line without a line feed":     {head + strings.TrimSuffix(one, "\n"), 1, api.ErrSyntax},
		"anything behind":                {head + one + "x", 2, api.ErrSyntax},
		"a blank behind":                 {head + one + " ", 2, api.ErrSyntax},
		"eleven counts":                  {head + "x a 0 0" + zeros9, 1, api.ErrSyntax},
		"thirteen counts":                {head + "x a 0" + zeros, 1, api.ErrSyntax},
		"no team":                        {head + "x" + zeros, 1, api.ErrSyntax},
		"a blank at the end of a line":   {head + "x a 0 0" + strings.Replace(zeros9, "\n", " \n", 1), 1, api.ErrSyntax},
		"a third line":                   {head + one + "y b 1\n" + one, 2, api.ErrSyntax},
		"the first of two":               {"1 0 5 a a 3 2\n" + one + one + "y\n" + "z\n", 3, api.ErrSyntax},
		"the head and a line":            {"g x\n" + "y\n", 0, api.ErrSyntax},
		"wrong names in front":           {"7 1 5 a a 3 2\n" + "8 9" + zeros + "y\n", 2, api.ErrSyntax},
		"wrong numbers in front":         {"g 0 999999999 a b 1000 2\n" + "x a 1000 0 0" + zeros9 + "\n", 2, api.ErrSyntax},
		"a wrong line behind many lines": {head + strings.Repeat(one, 100) + "\n", 101, api.ErrSyntax},
		"many bytes":                     {strings.Repeat("x", api.MaxLog), 0, api.ErrSyntax},
		"many lines":                     {strings.Repeat("\n", api.MaxLog), 0, api.ErrSyntax},
		"a byte more":                    {strings.Repeat("x", api.MaxLog+1), 0, api.ErrLong},
		"a line too long, behind a game": {head + strings.Repeat("\n", api.MaxLog+1-len(head)), 0, api.ErrLong},
		"a line as long as permitted":    {head + strings.Repeat(" ", api.MaxLog-len(head)), 1, api.ErrSyntax},
	} {
		g, at, e := season.Parse(row.text)
		want(t, "Parse: "+what, []any{isNoGame(g), at, e}, []any{true, row.at, row.err})
	}
}

// Each word that must be an integer is examined.
func TestParseWrongIntegers(t *testing.T) {
	wrong := []string{"", "x", "-", "-0", "-1", "+1", "00", "01", "1000000000", "0999999999", "99999999999999999999", "1.", "1e2", "0x1", "1_0", "१", "\xff", "1\t"}
	first := strings.Split("g 1 5 a b 3 2", " ")
	for _, at := range []int{1, 2, 5, 6} {
		for _, word := range wrong {
			words := append([]string{}, first...)
			words[at] = word
			g, index, e := season.Parse(strings.Join(words, " ") + "\n")
			want(t, "Parse of the integer "+word, []any{isNoGame(g), index, e}, []any{true, 0, api.ErrSyntax})
		}
	}
	for at := range season.MaxKinds {
		for _, word := range wrong {
			words := strings.Split("x a"+strings.TrimSuffix(zeros, "\n"), " ")
			words[2+at] = word
			g, index, e := season.Parse(head + "a a" + zeros + strings.Join(words, " ") + "\n")
			want(t, "Parse of the count "+word, []any{isNoGame(g), index, e}, []any{true, 2, api.ErrSyntax})
		}
	}
}

// If all lines have their form, the error of the game is told, with the number of lines.
func TestParseWrongGames(t *testing.T) {
	one := "x a" + zeros
	for what, row := range map[string]struct {
		text string
		at   int
		err  api.Errno
	}{
		"no name":                {" 1 5 a b 3 2\n", 1, api.ErrName},
		"a name of other bytes":  {"\t\xff\r 1 5 a b 3 2\n", 1, api.ErrName},
		"a name of digits":       {"7 0 5 a b 3 2\n" + one, 2, api.ErrName},
		"a very long name":       {strings.Repeat("g", 900000) + " 1 5 a b 3 2\n", 1, api.ErrName},
		"the version 0":          {"g 0 5 7 b 3 2\n", 1, api.ErrRange},
		"a late day":             {"g 1 100000 7 b 3 2\n", 1, api.ErrRange},
		"nine digits":            {"g 1 999999999 a b 3 2\n", 1, api.ErrRange},
		"no first team":          {"g 1 5  b 3000 2\n", 1, api.ErrName},
		"no second team":         {"g 1 5 a  3000 2\n" + one, 2, api.ErrName},
		"no teams":               {"g 1 5   3000 2\n", 1, api.ErrName},
		"the same teams":         {"g 1 5 a a 1000 2\n", 1, api.ErrTwice},
		"a great score":          {"g 1 5 a b 3 1000\n" + "7 c" + zeros, 2, api.ErrRange},
		"61 lines":               {head + strings.Repeat("7 c"+zeros, 61), 62, api.ErrMany},
		"60 lines":               {head + strings.Repeat(one, 60), 61, api.ErrOrder},
		"very many lines":        {head + strings.Repeat(one, 30000), 30001, api.ErrMany},
		"no player":              {head + one + " c" + zeros, 3, api.ErrName},
		"a player of digits":     {head + "7 c" + zeros + one, 3, api.ErrName},
		"no team of a player":    {head + "x " + zeros, 2, api.ErrUnknown},
		"another team":           {head + "x c 1000 0 0" + zeros9, 2, api.ErrUnknown},
		"a great count":          {head + one + one + "x a 1000 0 0" + zeros9, 4, api.ErrOrder},
		"a great count in front": {head + "x a 1000 0 0" + zeros9 + one, 3, api.ErrRange},
		"a wrong order":          {head + "x a" + zeros + "X a" + zeros, 3, api.ErrOrder},
	} {
		g, at, e := season.Parse(row.text)
		want(t, "Parse: "+what, []any{isNoGame(g), at, e}, []any{true, row.at, row.err})
	}
}
