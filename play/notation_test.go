package play_test

import (
	"fmt"
	"strings"
	"testing"

	"dugout/api"
	"dugout/play"
)

// notations returns strings with the plays that they stand for.
func notations() map[string]api.Play {
	return map[string]api.Play{
		"- -":                     {},
		"- - late":                {Late: true},
		"BCX X":                   {Pitches: "BCX", Event: "X"},
		"- - 1-2s":                {Moves: []api.Move{safe(1, 2, "s")}},
		"B W 0-1a":                {Pitches: "B", Event: "W", Moves: []api.Move{safe(0, 1, "a")}},
		"X X late 3-4b 0x1c:8":    {Pitches: "X", Event: "X", Late: true, Moves: []api.Move{safe(3, 4, "b"), out(0, 1, "c", 8)}},
		"BCX X 1x2f:64 0x1f:643":  {Pitches: "BCX", Event: "X", Moves: []api.Move{out(1, 2, "f", 6, 4), out(0, 1, "f", 6, 4, 3)}},
		"H H 3-4a 2-3a 1-2a 0-1a": {Pitches: "H", Event: "H", Moves: []api.Move{safe(3, 4, "a"), safe(2, 3, "a"), safe(1, 2, "a"), safe(0, 1, "a")}},
		"- N 0x1n:123456789":      {Event: "N", Moves: []api.Move{out(0, 1, "n", 1, 2, 3, 4, 5, 6, 7, 8, 9)}},
		"- - 2-3p:12":             {Moves: []api.Move{safe(2, 3, "p", 1, 2)}},
	}
}

func TestPrintAndParse(t *testing.T) {
	for s, p := range notations() {
		got, e := play.Print(p)
		want(t, "Print "+s, got, s)
		want(t, "its error", e, api.OK)
		back, at, e := play.Parse(s)
		want(t, "Parse "+s, back, p)
		want(t, "its index", at, 0)
		want(t, "its error", e, api.OK)
	}
}

func TestParseWrongWords(t *testing.T) {
	for _, x := range []struct {
		s  string
		at int
	}{
		{"", 0},
		{" ", 0},
		{" - -", 0},
		{"Q", 0},
		{"Q Q Q", 0},
		{"--", 0},
		{"-B X", 0},
		{"bcx X", 0},
		{"B\xff X", 0},
		{"-", 1},
		{"BCX", 3},
		{"BCX ", 4},
		{"BCX  X", 4},
		{"- Q", 2},
		{"- --", 2},
		{"- KK", 2},
		{"- k", 2},
		{"- late", 2},
		{"- X ", 4},
		{"- X  0-1b", 4},
		{"- X 0-1b ", 9},
		{"- X\n", 2},
		{"- X\t0-1b", 2},
		{"- X 0-1b late", 9},
		{"- X late late", 9},
		{"- X Late", 4},
		{"- X lat", 4},
		{"- X latex", 4},
		{"- X 0-1", 4},
		{"- X 0+1b", 4},
		{"- X 0X1b", 4},
		{"- X a-1b", 4},
		{"- X 0-bb", 4},
		{"- X 0-1B", 4},
		{"- X 0-11", 4},
		{"- X 0-1`", 4},
		{"- X 0-1{", 4},
		{"- X 0-1\xc3\xa9", 4},
		{"- X 0-1bb", 4},
		{"- X 0-1b6", 4},
		{"- X 0-1b:", 4},
		{"- X 0-1b;6", 4},
		{"- X 0-1b:6a", 4},
		{"- X 0-1b:6-", 4},
		{"- X 0-1b::6", 4},
		{"- X 10-1b", 4},
		{"- X 3-4b 2-3b 1-2b 0-1b 9", 24},
		{"XX QX 0", 3},
	} {
		p, at, e := play.Parse(x.s)
		want(t, fmt.Sprintf("Parse %q", x.s), e, api.ErrSyntax)
		want(t, fmt.Sprintf("the index in %q", x.s), at, x.at)
		want(t, "its play", p, api.Play{})
	}
}

// Where no word is wrong, the index of the error is the length of the string.
func TestParseWrongPlays(t *testing.T) {
	for s, wanted := range map[string]api.Errno{
		"- X 1-2z":                         api.ErrKind,
		"XB -":                             api.ErrPitch,
		"HH H 0-1a":                        api.ErrPitch,
		"XX X 1-2z":                        api.ErrPitch,
		strings.Repeat("B", 25) + " W":     api.ErrMany,
		"- X 4-4b":                         api.ErrRange,
		"- X 0-0b":                         api.ErrRange,
		"- X 9-9z":                         api.ErrRange,
		"- X 0-1s":                         api.ErrMove,
		"- X 0x1f":                         api.ErrTouch,
		"- X 0x1f:0":                       api.ErrTouch,
		"- X 0x1f:66":                      api.ErrTouch,
		"- X 0x1g:1212121212":              api.ErrTouch,
		"- X 0-1b 1-2b":                    api.ErrOrder,
		"- X 3-4b 2-3b 1-2b 0-1b 0-1b":     api.ErrMany,
		"- - late 1-2s 1-2s":               api.ErrOrder,
		"- X 1-2b 1-2z":                    api.ErrKind,
		"- -" + strings.Repeat(" 0-1b", 9): api.ErrMany,
	} {
		p, at, e := play.Parse(s)
		want(t, "Parse "+s, e, wanted)
		want(t, "the index in "+s, at, len(s))
		want(t, "its play", p, api.Play{})
	}
}

func TestParseLong(t *testing.T) {
	head := "- X 0-1b:"
	s := head + strings.Repeat("6", api.MaxText-len(head))
	_, at, e := play.Parse(s)
	want(t, "4096 bytes", e, api.ErrTouch)
	want(t, "its index", at, 4096)
	p, at, e := play.Parse(s + "6")
	want(t, "4097 bytes", e, api.ErrLong)
	want(t, "its index", at, 0)
	want(t, "its play", p, api.Play{})
	_, at, e = play.Parse(strings.Repeat("q", 4097))
	want(t, "4097 wrong bytes", e, api.ErrLong)
	want(t, "its index", at, 0)
}

func TestPrintAllAndParseAll(t *testing.T) {
	list := []api.Play{parsed(t, "BCX X 1x2f:64 0x1f:643"), {}, parsed(t, "X X late 3-4b 0x1c:8")}
	text, e := play.PrintAll(list)
	want(t, "PrintAll", text, "BCX X 1x2f:64 0x1f:643\n- -\nX X late 3-4b 0x1c:8\n")
	want(t, "its error", e, api.OK)
	back, at, e := play.ParseAll(text)
	want(t, "ParseAll", back, list)
	want(t, "its index", at, 0)
	want(t, "its error", e, api.OK)
	text, e = play.PrintAll(nil)
	want(t, "PrintAll of none", text, "")
	want(t, "its error", e, api.OK)
	back, at, e = play.ParseAll("")
	want(t, "ParseAll of nothing", len(back), 0)
	want(t, "its index", at, 0)
	want(t, "its error", e, api.OK)
}

func TestPrintAllMany(t *testing.T) {
	long := parsed(t, strings.Repeat("F", 23)+"X X late 3x4g:121212121 2x4g:121212121 1x4g:121212121 0x4g:121212121")
	list := make([]api.Play, api.MaxPlays)
	for i := range list {
		list[i] = long
	}
	text, e := play.PrintAll(list)
	want(t, "256 plays", e, api.OK)
	want(t, "their lines", strings.Count(text, "\n"), 256)
	back, _, e := play.ParseAll(text)
	want(t, "256 lines", e, api.OK)
	want(t, "their plays", back, list)
	text, e = play.PrintAll(append(list, api.Play{Event: "Q"}))
	want(t, "257 plays", e, api.ErrMany)
	want(t, "their text", text, "")
	list[0] = api.Play{Event: "Q"}
	_, e = play.PrintAll(append(list, api.Play{}))
	want(t, "257 plays, the first one wrong", e, api.ErrMany)
	_, e = play.PrintAll([]api.Play{{}, {Pitches: "Q"}, {Event: "Q"}})
	want(t, "two wrong plays", e, api.ErrPitch)
}

func TestParseAllErrors(t *testing.T) {
	full := strings.Repeat("- -\n", api.MaxPlays)
	for what, x := range map[string]struct {
		s   string
		at  int
		err api.Errno
	}{
		"a line that does not end":        {"- -\n- -", 1, api.ErrSyntax},
		"one line that does not end":      {"- -", 0, api.ErrSyntax},
		"a wrong line that does not end":  {"- -\n- X 1-2z", 1, api.ErrSyntax},
		"an empty line":                   {"\n", 0, api.ErrSyntax},
		"an empty line behind another":    {"- -\n\n- -\n", 1, api.ErrSyntax},
		"a wrong word":                    {"- -\n- -\n- Q\n", 2, api.ErrSyntax},
		"a wrong play":                    {"- -\n- X 1-2z\n- Q\n", 1, api.ErrKind},
		"a carriage return":               {"- -\r\n", 0, api.ErrSyntax},
		"257 lines":                       {full + "- -\n", 256, api.ErrMany},
		"257 lines, the last one wrong":   {full + "- Q\n", 256, api.ErrMany},
		"257 lines, the first one wrong":  {"- Q\n" + full, 0, api.ErrSyntax},
		"257 lines, the last one no line": {full + "- -", 256, api.ErrSyntax},
		"258 lines":                       {full + "- -\n- -\n", 256, api.ErrMany},
		"a long line":                     {"- -\n" + strings.Repeat("B", 4097) + "\n", 1, api.ErrLong},
		"a line of 4096 bytes":            {strings.Repeat("B", 4094) + " -\n", 0, api.ErrMany},
	} {
		l, at, e := play.ParseAll(x.s)
		want(t, what, e, x.err)
		want(t, "the index of "+what, at, x.at)
		want(t, "the plays of "+what, len(l), 0)
	}
}

func TestParseAllLong(t *testing.T) {
	text := strings.Repeat("- -\n", api.MaxLog/4)
	_, at, e := play.ParseAll(text)
	want(t, "1000000 bytes", e, api.ErrMany)
	want(t, "their index", at, 256)
	_, at, e = play.ParseAll("q" + text)
	want(t, "1000001 bytes", e, api.ErrLong)
	want(t, "their index", at, 0)
}
