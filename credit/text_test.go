package credit_test

import (
	"slices"
	"strconv"
	"strings"
	"testing"

	"dugout/api"
	"dugout/credit"
)

func TestPrint(t *testing.T) {
	var text strings.Builder
	for _, x := range allTotals(-12) {
		text.WriteString(strings.Join([]string{strconv.Itoa(x.Side), x.Kind, strconv.Itoa(x.Slot), strconv.Itoa(x.Position), "-12\n"}, " "))
	}
	for what, row := range map[string]struct {
		l    []credit.Total
		text string
	}{
		"nothing":       {nil, ""},
		"one":           {totals("0 h 1 0 1"), "0 h 1 0 1\n"},
		"a negative":    {totals("0 h 1 0 -2", "0 r 3 0 1"), "0 h 1 0 -2\n0 r 3 0 1\n"},
		"a fielder":     {totals("1 po 0 9 10"), "1 po 0 9 10\n"},
		"great numbers": {totals("0 h 1 0 999999999", "0 h 2 0 -999999999"), "0 h 1 0 999999999\n0 h 2 0 -999999999\n"},
		"all":           {allTotals(-12), text.String()},
	} {
		text, e := credit.Print(row.l)
		want(t, "Print: "+what, []any{text, e}, []any{row.text, api.OK})
		l, at, e := credit.Parse(row.text)
		want(t, "the error of Parse: "+what, []any{at, e}, []any{0, api.OK})
		want(t, "Parse: "+what, l, row.l)
	}
	for what, row := range wrongTotals() {
		text, e := credit.Print(row.l)
		want(t, "Print: "+what, []any{text, e}, []any{"", row.err})
	}
}

// written returns the lines of totals, whatever they are.
func written(l []credit.Total) string {
	var text strings.Builder
	for _, x := range l {
		words := []string{strconv.Itoa(x.Side), x.Kind, strconv.Itoa(x.Slot), strconv.Itoa(x.Position), strconv.Itoa(x.N)}
		text.WriteString(strings.Join(words, " ") + "\n")
	}
	return text.String()
}

// The error of the totals is told, with the number of the lines, if all lines have their form.
func TestParseWrongTotals(t *testing.T) {
	noForm := []string{"a negative side", "an empty kind", "too many that are none", "a great number", "a small number", "a number, a wrong order"}
	for what, row := range wrongTotals() {
		if slices.Contains(noForm, what) {
			continue
		}
		l, at, e := credit.Parse(written(row.l))
		want(t, "Parse: "+what, []any{len(l), at, e}, []any{0, len(row.l), row.err})
		l, at, e = credit.Parse(written(row.l) + "\n")
		want(t, "Parse of a wrong line behind "+what, []any{len(l), at, e}, []any{0, len(row.l), api.ErrSyntax})
	}
}

func TestParseWrong(t *testing.T) {
	line := "0 h 1 0 1\n"
	// A line of n bytes whose kind is none.
	long := func(n int) string { return "0 " + strings.Repeat("x", n-9) + " 1 0 1\n" }
	for what, row := range map[string]struct {
		text string
		at   int
		err  api.Errno
	}{
		"no line feed":                   {"0 h 1 0 1", 0, api.ErrSyntax},
		"no line feed at the end":        {line + "0 h 2 0 1\n0 h 3 0 1", 2, api.ErrSyntax},
		"a line feed alone":              {"\n", 0, api.ErrSyntax},
		"an empty line":                  {line + "\n0 h 2 0 1\n", 1, api.ErrSyntax},
		"a blank alone":                  {" \n", 0, api.ErrSyntax},
		"four words":                     {"0 h 1 0\n", 0, api.ErrSyntax},
		"six words":                      {"0 h 1 0 1 1\n", 0, api.ErrSyntax},
		"a blank in front":               {" 0 h 1 0 1\n", 0, api.ErrSyntax},
		"a blank at the end":             {"0 h 1 0 1 \n", 0, api.ErrSyntax},
		"two blanks":                     {"0 h  1 0 1\n", 0, api.ErrSyntax},
		"an empty side":                  {" h 1 0 1\n", 0, api.ErrSyntax},
		"an empty kind":                  {"0  1 0 1\n", 0, api.ErrSyntax},
		"an empty number":                {"0 h 1 0 \n", 0, api.ErrSyntax},
		"a tabulator":                    {"0\th 1 0 1\n", 0, api.ErrSyntax},
		"a carriage return":              {"0 h 1 0 1\r\n", 0, api.ErrSyntax},
		"a side with zeros":              {"00 h 1 0 1\n", 0, api.ErrSyntax},
		"a slot with zeros":              {"0 h 01 0 1\n", 0, api.ErrSyntax},
		"a position with zeros":          {"0 h 1 00 1\n", 0, api.ErrSyntax},
		"a number with zeros":            {"0 h 1 0 01\n", 0, api.ErrSyntax},
		"a negative number with zeros":   {"0 h 1 0 -01\n", 0, api.ErrSyntax},
		"a negative 0":                   {"0 h 1 0 -0\n", 0, api.ErrSyntax},
		"many zeros":                     {"0 h 1 0 -00\n", 0, api.ErrSyntax},
		"a sign alone":                   {"0 h 1 0 -\n", 0, api.ErrSyntax},
		"two signs":                      {"0 h 1 0 --1\n", 0, api.ErrSyntax},
		"another sign":                   {"0 h 1 0 +1\n", 0, api.ErrSyntax},
		"a sign at the end":              {"0 h 1 0 1-\n", 0, api.ErrSyntax},
		"a negative side":                {"-1 h 1 0 1\n", 0, api.ErrSyntax},
		"a negative slot":                {"0 h -1 0 1\n", 0, api.ErrSyntax},
		"a negative position":            {"0 po 0 -1 1\n", 0, api.ErrSyntax},
		"a letter":                       {"0 h a 0 1\n", 0, api.ErrSyntax},
		"a letter behind a digit":        {"0 h 1 0 1a\n", 0, api.ErrSyntax},
		"a byte before the digits":       {"/ h 1 0 1\n", 0, api.ErrSyntax},
		"a byte behind the digits":       {"0 h 1 : 1\n", 0, api.ErrSyntax},
		"another digit":                  {"0 h \u0661 0 1\n", 0, api.ErrSyntax},
		"no rune":                        {"0 h 1 0 \xff\n", 0, api.ErrSyntax},
		"ten digits of a side":           {"1000000000 h 1 0 1\n", 0, api.ErrSyntax},
		"ten digits of a slot":           {"0 h 1000000000 0 1\n", 0, api.ErrSyntax},
		"ten digits of a position":       {"0 po 0 1000000000 1\n", 0, api.ErrSyntax},
		"ten digits of a number":         {"0 h 1 0 1000000000\n", 0, api.ErrSyntax},
		"ten digits of a negative":       {"0 h 1 0 -1000000000\n", 0, api.ErrSyntax},
		"a number of 64 bits":            {"0 h 1 0 18446744073709551617\n", 0, api.ErrSyntax},
		"nine digits of a side":          {"999999999 h 1 0 1\n", 1, api.ErrSide},
		"nine digits of a slot":          {line + "0 h 999999999 0 1\n", 2, api.ErrShape},
		"nine digits of a position":      {"0 po 0 999999999 1\n", 1, api.ErrShape},
		"0":                              {"0 h 1 0 0\n", 1, api.ErrZero},
		"a kind in capitals":             {"0 H 1 0 1\n", 1, api.ErrKind},
		"a kind of any bytes":            {"0 \t\xff- 1 0 1\n", 1, api.ErrKind},
		"the first wrong line":           {line + "0 h 1 0\n0 h\n", 1, api.ErrSyntax},
		"a wrong total, then a line":     {"2 walk 1 0 1\n" + line + "0 h\n", 2, api.ErrSyntax},
		"the totals alone":               {line + line + line, 3, api.ErrOrder},
		"many":                           {strings.Repeat(line, credit.MaxTotals), credit.MaxTotals, api.ErrOrder},
		"too many":                       {strings.Repeat(line, credit.MaxTotals+1), credit.MaxTotals + 1, api.ErrMany},
		"too many, and a wrong one":      {strings.Repeat(line, credit.MaxTotals+1) + "0 h", credit.MaxTotals + 1, api.ErrSyntax},
		"as many as there may be":        {strings.Repeat(line, api.MaxLog/len(line)), api.MaxLog / len(line), api.ErrMany},
		"a long string":                  {long(api.MaxLog), 1, api.ErrKind},
		"a longer string":                {long(api.MaxLog + 1), 0, api.ErrLong},
		"a longer string without a line": {strings.Repeat("x", api.MaxLog+1), 0, api.ErrLong},
	} {
		l, at, e := credit.Parse(row.text)
		want(t, "Parse: "+what, []any{len(l), at, e}, []any{0, row.at, row.err})
	}
}
