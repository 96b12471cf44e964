package office_test

import (
	"math/big"
	"strconv"
	"strings"
	"testing"

	"dugout/api"
	"dugout/office"
)

// sum returns the checksum of a string as the value of a polynomial, whose first coefficient is 1.
func sum(s string) string {
	x, power, base := big.NewInt(0), big.NewInt(1), big.NewInt(283)
	for i := len(s) - 1; i >= 0; i-- {
		x.Add(x, new(big.Int).Mul(big.NewInt(int64(s[i])), power))
		power.Mul(power, base)
	}
	x.Add(x, power).Mod(x, big.NewInt(9999931))
	digits := "0000000" + x.String()
	return digits[len(digits)-7:]
}

// signed returns the record with a body, which may be none.
func signed(body string) string {
	return body + "#" + sum(body) + "\n"
}

// logOf returns the log of the events with the rests of their bodies.
func logOf(lines ...string) string {
	var log strings.Builder
	for i, line := range lines {
		log.WriteString(signed(strconv.Itoa(i+1) + " " + line))
	}
	return log.String()
}

func TestChecksums(t *testing.T) {
	for s, wanted := range map[string]string{"": "0000001", "1": "0000332", "11": "0094005"} {
		want(t, "the checksum of "+s, sum(s), wanted)
		_, _, e := office.Recover(s + "#" + wanted + "\n")
		want(t, "a right checksum, and no event", e, api.ErrSyntax)
		_, _, e = office.Recover(s + "#0000009\n")
		want(t, "a wrong checksum", e, api.ErrCheck)
	}
}

func TestAppendAndRecover(t *testing.T) {
	lines := followed(rightLines, "open "+strings.Repeat("z", 24)+" v h 1", "play g 1 BCBFFFFFFFFFFFFFFFFFFFX X late 3-4b:123456789 2-4t:121212121 1x3g:989898989 0-2b:987654321")
	log := ""
	for i, line := range lines {
		next, e := office.Append(log, event(i+1, line))
		want(t, "Append of "+line, []any{next, e}, []any{log + signed(strconv.Itoa(i+1)+" "+line), api.OK})
		log = next
	}
	l, at, e := office.Recover(log)
	want(t, "Recover", []any{l, at, e}, []any{journal(lines...), len(log), api.OK})
	first, e := office.Append("", event(1, "open g v h 1"))
	want(t, "the first record", []any{first, e}, []any{"1 open g v h 1#" + sum("1 open g v h 1") + "\n", api.OK})
	l, at, e = office.Recover("")
	want(t, "Recover of nothing", []any{l, at, e}, []any{[]api.Event(nil), 0, api.OK})
}

// A record that no journal would accept is one of a log.
func TestLogsOfWhatIsNotAccepted(t *testing.T) {
	lines := []string{"undo", "close g 5", "play g 1 X -", "open g a a 0", "judge g lives 1 2 3 4 5"}
	l, at, e := office.Recover(logOf(lines...))
	want(t, "Recover", []any{l, at, e}, []any{journal(lines...), len(logOf(lines...)), api.OK})
	log, e := office.Append(logOf(lines...), event(6, "undo"))
	want(t, "Append", []any{log, e}, []any{logOf(followed(lines, "undo")...), api.OK})
}

// wrongRests are strings that are no records, with their errors behind a record with the number 1, or behind nothing.
func wrongRests() map[string]struct {
	rest string
	err  api.Errno
} {
	type row = struct {
		rest string
		err  api.Errno
	}
	rows := map[string]row{
		"a byte":                             {"x", api.ErrTorn},
		"a record without a line feed":       {strings.TrimSuffix(signed("2 undo"), "\n"), api.ErrTorn},
		"a record with a carriage return":    {strings.TrimSuffix(signed("2 undo"), "\n") + "\r", api.ErrTorn},
		"a long string":                      {strings.Repeat("x", 900000), api.ErrTorn},
		"a carriage return and a line feed":  {strings.TrimSuffix(signed("2 undo"), "\n") + "\r\n", api.ErrSyntax},
		"an empty line":                      {"\n", api.ErrSyntax},
		"an empty line before another one":   {"\n" + signed("2 undo"), api.ErrSyntax},
		"a line that is too short":           {"#000001\n", api.ErrSyntax},
		"seven digits":                       {"0000001\n", api.ErrSyntax},
		"a body alone":                       {"2 undo\n", api.ErrSyntax},
		"six digits":                         {"2 undo#" + sum("2 undo")[1:] + "\n", api.ErrSyntax},
		"eight digits":                       {"2 undo#0" + sum("2 undo") + "\n", api.ErrSyntax},
		"a letter among the digits":          {"2 undo#00000a1\n", api.ErrSyntax},
		"a sign among the digits":            {"2 undo#+000001\n", api.ErrSyntax},
		"other digits":                       {"2 undo#000٣1\n", api.ErrSyntax},
		"a blank behind":                     {"2 undo#" + sum("2 undo") + " \n", api.ErrSyntax},
		"another mark":                       {"2 undo$" + sum("2 undo") + "\n", api.ErrSyntax},
		"a wrong sum":                        {"2 undo#" + sum("3 undo") + "\n", api.ErrCheck},
		"a wrong sum of what is no body":     {"note#" + sum("notes") + "\n", api.ErrCheck},
		"the sum of the line with its mark":  {"2 undo#" + sum("2 undo#") + "\n", api.ErrCheck},
		"the sum with a line feed":           {"2 undo#" + sum("2 undo\n") + "\n", api.ErrCheck},
		"a sum that is right but for a mark": {signed("2 undo#"), api.ErrSyntax},
		"two sums":                           {signed("2 undo#" + sum("2 undo")), api.ErrSyntax},
		"a number of none before":            {signed("1001 undo"), api.ErrSyntax},
	}
	for _, body := range []string{
		"", " ", "2", "2 ", " 2 undo", "2  undo", "2 undo ", "2 undo 1", "undo", "02 undo", "+2 undo", "-2 undo", "0 undo", "x undo", "2\tundo", "２ undo", "1000000000 undo", "99999999999999999999 undo",
		"2 note", "2 Undo", "2 undo x", "2 open g v h", "2 open g v h ", "2 open g v h 1 1", "2 open g v h 1 ", "2 open g v 1", "2 open  v h 1", "2 open g v h 01", "2 open g v h -1", "2 open g v h +1", "2 open g v h x", "2 open g v h 1000000000", "2 open g v 1 1", "2 open g_ v- h 1", "2 open g v h 1 - -",
		"2 play g 1", "2 play g 1 ", "2 play g 1  - -", "2 play g 1 -", "2 play g 1 - - ", "2 play g 1 -  -", "2 play g - -", "2 play 1 g - -", "2 play g 1 X X 0-1z", "2 play g 00 - -",
		"2 change g 1 - -", "2 change g 1 0", "2 change g 1 x - -", "2 change g 1 0  - -", "2 drop g", "2 drop g 1 - -", "2 judge g life 1 2 3 4", "2 judge g life 1 2 3 4 5 6", "2 judge g 1 2 3 4 5 6", "2 close 1 g", "2 close g 1.0", "2 close g 1\r",
	} {
		rows["the body "+body] = row{signed(body), api.ErrSyntax}
	}
	return rows
}

func TestRecoverErrors(t *testing.T) {
	first := logOf("open g v h 1")
	for what, row := range wrongRests() {
		for _, behind := range []string{"", signed("2 undo"), "x", "x\n"} {
			if row.err == api.ErrTorn && behind != "" {
				continue
			}
			l, at, e := office.Recover(row.rest + behind)
			want(t, "Recover: "+what, []any{l, at, e}, []any{[]api.Event(nil), 0, row.err})
			l, at, e = office.Recover(first + row.rest + behind)
			want(t, "Recover behind a record: "+what, []any{l, at, e}, []any{example(1), len(first), row.err})
		}
		log, e := office.Append(first+row.rest, api.Event{})
		want(t, "Append: "+what, []any{log, e}, []any{"", row.err})
	}
}

func TestRecoverOrder(t *testing.T) {
	three := []string{"open g v h 1", "play g 1 - -", "undo"}
	for _, n := range []string{"1", "2", "3", "5", "999", "1000"} {
		l, at, e := office.Recover(logOf(three...) + signed(n+" undo") + signed("4 undo"))
		want(t, "the number "+n+" behind three", []any{l, at, e}, []any{journal(three...), len(logOf(three...)), api.ErrOrder})
	}
	for _, n := range []string{"2", "10", "1000"} {
		l, at, e := office.Recover(signed(n + " undo"))
		want(t, "the first number "+n, []any{l, at, e}, []any{[]api.Event(nil), 0, api.ErrOrder})
	}
	_, _, e := office.Recover(signed("2 note"))
	want(t, "another number, of no event", e, api.ErrSyntax)
}

func TestLongLogs(t *testing.T) {
	lines := fullLines()
	log := logOf(lines...)
	l, at, e := office.Recover(log)
	want(t, "1000 records", []any{l, at, e}, []any{journal(lines...), len(log), api.OK})
	for n, wanted := range map[string]api.Errno{"1000": api.ErrOrder, "1": api.ErrOrder, "1001": api.ErrSyntax} {
		l, at, e = office.Recover(log + signed(n+" undo"))
		want(t, "one more", []any{len(l), at, e}, []any{1000, len(log), wanted})
	}
	_, e = office.Append(log, event(1000, "undo"))
	want(t, "Append of one more", e, api.ErrOrder)
	_, e = office.Append(log, event(1001, "undo"))
	want(t, "Append of one more, of no number", e, api.ErrRange)
	for n, wanted := range map[int]api.Errno{999999: api.ErrTorn, 1000000: api.ErrTorn, 1000001: api.ErrLong} {
		long := log + strings.Repeat("x", n-len(log))
		events, length := 1000, len(log)
		if wanted == api.ErrLong {
			events, length = 0, 0
		}
		l, at, e = office.Recover(long)
		want(t, "a long string", []any{n, len(l), at, e}, []any{n, events, length, wanted})
		_, e = office.Append(long, api.Event{})
		want(t, "Append to a long string", e, wanted)
		s, e := office.Open(long)
		want(t, "Open of a long string", []any{s != nil, e}, []any{wanted == api.ErrTorn, map[bool]api.Errno{true: api.OK, false: wanted}[wanted == api.ErrTorn]})
	}
}

func TestAppendErrors(t *testing.T) {
	log := logOf(exampleLines...)
	for what, row := range map[string]struct {
		log   string
		event api.Event
		err   api.Errno
	}{
		"a number that was there":       {log, event(6, "undo"), api.ErrOrder},
		"a number that is left out":     {log, event(8, "undo"), api.ErrOrder},
		"a first number that is not 1":  {"", event(2, "undo"), api.ErrOrder},
		"an event that is none":         {log, api.Event{Number: 6, Kind: "note"}, api.ErrKind},
		"a number of none":              {log, event(0, "undo"), api.ErrRange},
		"a name of none":                {log, event(8, "drop 1 1"), api.ErrName},
		"a text of none":                {log, event(8, "play g 1 x"), api.ErrForm},
		"a text that would be a record": {log, event(7, "play g 1 - -\n"), api.ErrForm},
		"a log that ends too early":     {log[:len(log)-1], event(0, "undo"), api.ErrTorn},
		"a log of another order":        {log + signed("1 undo"), event(0, "undo"), api.ErrOrder},
		"a wrong log":                   {"x" + log, event(0, "undo"), api.ErrCheck},
	} {
		s, e := office.Append(row.log, row.event)
		want(t, "Append: "+what, []any{s, e}, []any{"", row.err})
	}
}
