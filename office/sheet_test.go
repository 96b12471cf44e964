package office_test

import (
	"fmt"
	"slices"
	"strings"
	"testing"

	"dugout/api"
	"dugout/office"
)

// cellText returns a cell as a text: inning and side, slot, plays, path, out and fate.
func cellText(c office.Cell) string {
	return fmt.Sprintf("%d/%d %d [%s] %v %d %s", c.Inning, c.Side, c.Slot, strings.Join(c.Plays, ", "), c.Path, c.Out, c.Fate)
}

// cellTexts returns cells as texts.
func cellTexts(l []office.Cell) []string {
	var texts []string
	for _, c := range l {
		texts = append(texts, cellText(c))
	}
	return texts
}

const (
	walk    = "BBBB W 0-1a"
	walks1  = "BBBB W 1-2a 0-1a"
	walks2  = "BBBB W 2-3a 1-2a 0-1a"
	walks3  = "BBBB W 3-4a 2-3a 1-2a 0-1a"
	fly     = "X X 0x1c:8"
	opposed = "1/1 1 [X X 0x1c:8] [] 1 out"
)

// ninth returns the plays of a game up to the last half, without runs, and further ones.
func ninth(list ...string) []string {
	return followed(repeated(strikeout, 51), list...)
}

func TestSheet(t *testing.T) {
	k := "[" + strikeout + "] []"
	for what, row := range map[string]struct {
		plays []string
		cells []string
	}{
		"nothing":        {nil, nil},
		"the first game": {[]string{"X X 0-1b:6", "C - 1-2p", "X X 2-4b:82 0-2t:82"}, []string{"1/0 1 [X X 0-1b:6] [1 2 4] 0 run", "1/0 2 [C - 1-2p, X X 2-4b:82 0-2t:82] [2] 0 on"}},
		"a turn begun":   {[]string{"B -"}, []string{"1/0 1 [B -] [] 0 bat"}},
		"a turn, and more of it": {
			[]string{"B -", "- -", "C -", "X X 0-3b"},
			[]string{"1/0 1 [B -, - -, C -, X X 0-3b] [3] 0 on"},
		},
		"a turn begun behind one": {[]string{homer, "B -"}, []string{"1/0 1 [X X 0-4b] [4] 0 run", "1/0 2 [B -] [] 0 bat"}},
		"all bases": {
			[]string{walk, walks1, walks2},
			[]string{"1/0 1 [" + walk + "] [1 2 3] 0 on", "1/0 2 [" + walks1 + "] [1 2] 0 on", "1/0 3 [" + walks2 + "] [1] 0 on"},
		},
		"a runner who is put out in the turn of another batter": {
			[]string{walk, "B - 1x2g:26", "BBB W 0-1a"},
			[]string{"1/0 1 [" + walk + "] [1] 1 out", "1/0 2 [B - 1x2g:26, BBB W 0-1a] [1] 0 on"},
		},
		"a turn that is cut off by the third out, and the same batter in the next inning": {
			[]string{fly, fly, walk, "B - 1x2g:26", fly, fly, fly, "B -", "BBB W 0-1a"},
			[]string{
				"1/0 1 [" + fly + "] [] 1 out", "1/0 2 [" + fly + "] [] 2 out", "1/0 3 [" + walk + "] [1] 3 out", "1/0 4 [B - 1x2g:26] [] 0 bat",
				opposed, "1/1 2 [" + fly + "] [] 2 out", "1/1 3 [" + fly + "] [] 3 out",
				"2/0 4 [B -, BBB W 0-1a] [1] 0 on",
			},
		},
		"a turn that is cut off, and the same slot of the other side": {
			[]string{walk, "- - 1x2g:26", walk, "- - 1x2g:26", walk, "B - 1x2g:26", walk, "B -"},
			[]string{
				"1/0 1 [" + walk + "] [1] 1 out", "1/0 2 [- - 1x2g:26, " + walk + "] [1] 2 out", "1/0 3 [- - 1x2g:26, " + walk + "] [1] 3 out", "1/0 4 [B - 1x2g:26] [] 0 bat",
				"1/1 1 [" + walk + "] [1] 0 on", "1/1 2 [B -] [] 0 bat",
			},
		},
		"two outs in a play": {
			[]string{walk, "X X 1x2f:64 0x1f:643", walk},
			[]string{"1/0 1 [" + walk + "] [1] 1 out", "1/0 2 [X X 1x2f:64 0x1f:643] [] 2 out", "1/0 3 [" + walk + "] [1] 0 on"},
		},
		"three outs in a play": {
			[]string{walk, walks1, "X X 2x2d:4 1x1d:43 0x1c:6"},
			[]string{"1/0 1 [" + walk + "] [1 2] 1 out", "1/0 2 [" + walks1 + "] [1] 2 out", "1/0 3 [X X 2x2d:4 1x1d:43 0x1c:6] [] 3 out"},
		},
		"an out in the middle of the moves": {
			[]string{fly, walk, walks1, "X X 2-3b 1x2f:64 0-1b"},
			[]string{"1/0 1 [" + fly + "] [] 1 out", "1/0 2 [" + walk + "] [1 2 3] 0 on", "1/0 3 [" + walks1 + "] [1] 2 out", "1/0 4 [X X 2-3b 1x2f:64 0-1b] [1] 0 on"},
		},
		"a runner who is put out at home": {
			[]string{walk, "X X 1x4g:872 0-2b"},
			[]string{"1/0 1 [" + walk + "] [1] 1 out", "1/0 2 [X X 1x4g:872 0-2b] [2] 0 on"},
		},
		"left on base": {
			[]string{walk, fly, fly, fly},
			[]string{"1/0 1 [" + walk + "] [1] 0 left", "1/0 2 [" + fly + "] [] 1 out", "1/0 3 [" + fly + "] [] 2 out", "1/0 4 [" + fly + "] [] 3 out"},
		},
		"the batter is left on base": {
			[]string{walk, fly, fly, "X X 1x2f:64 0-1b"},
			[]string{"1/0 1 [" + walk + "] [1] 3 out", "1/0 2 [" + fly + "] [] 1 out", "1/0 3 [" + fly + "] [] 2 out", "1/0 4 [X X 1x2f:64 0-1b] [1] 0 left"},
		},
		"a run that does not count, for a closing out": {
			[]string{"X X 0-3b", fly, fly, "X X 3-4b 0x1f:63", "B -"},
			[]string{"1/0 1 [X X 0-3b] [3 4] 0 left", "1/0 2 [" + fly + "] [] 1 out", "1/0 3 [" + fly + "] [] 2 out", "1/0 4 [X X 3-4b 0x1f:63] [] 3 out", "1/1 1 [B -] [] 0 bat"},
		},
		"a run that does not count, for it is late": {
			[]string{"X X 0-2b", fly, fly, "X X late 2-4b 0x2g:84"},
			[]string{"1/0 1 [X X 0-2b] [2 4] 0 left", "1/0 2 [" + fly + "] [] 1 out", "1/0 3 [" + fly + "] [] 2 out", "1/0 4 [X X late 2-4b 0x2g:84] [] 3 out"},
		},
		"a run that counts with the third out": {
			[]string{"X X 0-2b", fly, fly, "X X 2-4b 0x2g:84"},
			[]string{"1/0 1 [X X 0-2b] [2 4] 0 run", "1/0 2 [" + fly + "] [] 1 out", "1/0 3 [" + fly + "] [] 2 out", "1/0 4 [X X 2-4b 0x2g:84] [] 3 out"},
		},
		"a slot that bats twice in a half": {
			followed(repeated(homer, 9), homer, walk),
			[]string{
				"1/0 1 [X X 0-4b] [4] 0 run", "1/0 2 [X X 0-4b] [4] 0 run", "1/0 3 [X X 0-4b] [4] 0 run", "1/0 4 [X X 0-4b] [4] 0 run", "1/0 5 [X X 0-4b] [4] 0 run",
				"1/0 6 [X X 0-4b] [4] 0 run", "1/0 7 [X X 0-4b] [4] 0 run", "1/0 8 [X X 0-4b] [4] 0 run", "1/0 9 [X X 0-4b] [4] 0 run", "1/0 1 [X X 0-4b] [4] 0 run",
				"1/0 2 [" + walk + "] [1] 0 on",
			},
		},
	} {
		l, e := office.Sheet(plays(row.plays...))
		want(t, "Sheet: "+what, []any{cellTexts(l), e}, []any{row.cells, api.OK})
		p, e := office.ReadSheet(l)
		want(t, "ReadSheet: "+what, []any{p, e}, []any{plays(row.plays...), api.OK})
	}
	l, _ := office.Sheet(plays(ninth()...))
	want(t, "the last cell of the first half of the ninth inning", cellText(l[50]), "9/0 9 "+k+" 3 out")
}

func TestSheetAtTheEndOfAGame(t *testing.T) {
	for what, row := range map[string]struct {
		plays []string
		cells []string // of the last half
	}{
		"a run in the turn of a batter": {
			[]string{walk, walks1, "B - 2-4s"},
			[]string{"9/1 7 [" + walk + "] [1 2 4] 0 run", "9/1 8 [" + walks1 + "] [1] 0 left", "9/1 9 [B - 2-4s] [] 0 bat"},
		},
		"a run, and a batter who is left": {
			[]string{"X X 0-3b", "X X 3-4b 0-1b"},
			[]string{"9/1 7 [X X 0-3b] [3 4] 0 run", "9/1 8 [X X 3-4b 0-1b] [1] 0 left"},
		},
		"bases that are full": {
			[]string{walk, walks1, walks2, walks3},
			[]string{"9/1 7 [" + walk + "] [1 2 3 4] 0 run", "9/1 8 [" + walks1 + "] [1 2 3] 0 left", "9/1 9 [" + walks2 + "] [1 2] 0 left", "9/1 1 [" + walks3 + "] [1] 0 left"},
		},
		"a run of the batter": {[]string{fly, homer}, []string{"9/1 7 [" + fly + "] [] 1 out", "9/1 8 [" + homer + "] [4] 0 run"}},
	} {
		l, e := office.Sheet(plays(ninth(row.plays...)...))
		want(t, "the error of Sheet: "+what, []any{len(l) >= 51, e}, []any{true, api.OK})
		want(t, "Sheet: "+what, cellTexts(l[min(51, len(l)):]), row.cells)
	}
	whole := followed([]string{homer}, repeated(strikeout, 51)...)
	l, e := office.Sheet(plays(followed(whole, walk, walks1, fly, "X X 1x2f:64 0x1f:643")...))
	want(t, "the error of Sheet of a game that ends with an out", []any{len(l), e}, []any{56, api.OK})
	want(t, "Sheet of a game that ends with an out", cellTexts(l[52:]), []string{"9/1 7 [" + walk + "] [1 2] 0 left", "9/1 8 [" + walks1 + "] [1] 2 out", "9/1 9 [" + fly + "] [] 1 out", "9/1 1 [X X 1x2f:64 0x1f:643] [] 3 out"})
}

func TestSheetErrors(t *testing.T) {
	for what, row := range map[string]struct {
		plays []api.Play
		err   api.Errno
	}{
		"too many plays":        {make([]api.Play, 257), api.ErrMany},
		"a play of no form":     {[]api.Play{{}, {Pitches: "x"}}, api.ErrPitch},
		"an event of none":      {[]api.Play{{Event: "x"}}, api.ErrKind},
		"a play against a rule": {plays(walk, "C - 2-3p"), api.ErrRule},
		"a play behind the end": {plays(ninth(homer, "- -")...), api.ErrOver},
	} {
		l, e := office.Sheet(row.plays)
		want(t, "Sheet: "+what, []any{l, e}, []any{[]office.Cell(nil), row.err})
	}
	l, e := office.Sheet(make([]api.Play, 256))
	want(t, "256 plays of a turn", []any{len(l), len(l[0].Plays), l[0].Fate, e}, []any{1, 256, "bat", api.OK})
	p, e := office.ReadSheet(l)
	want(t, "ReadSheet of 256 plays of a turn", []any{p, e}, []any{make([]api.Play, 256), api.OK})
}

// exampleCells returns the score sheet of the first example.
func exampleCells() []office.Cell {
	return []office.Cell{
		{Inning: 1, Side: 0, Slot: 1, Plays: []string{"X X 0-1b:6"}, Path: []int{1, 2, 4}, Out: 0, Fate: "run"},
		{Inning: 1, Side: 0, Slot: 2, Plays: []string{"C - 1-2p", "X X 2-4b:82 0-2t:82"}, Path: []int{2}, Out: 0, Fate: "on"},
	}
}

func TestReadSheetOfWrongCells(t *testing.T) {
	for what, change := range map[string]func(l []office.Cell) []office.Cell{
		"another inning": func(l []office.Cell) []office.Cell { l[1].Inning = 2; return l },
		"another side":   func(l []office.Cell) []office.Cell { l[0].Side = 1; return l },
		"another slot":   func(l []office.Cell) []office.Cell { l[1].Slot = 3; return l },
		"a shorter path": func(l []office.Cell) []office.Cell { l[0].Path = []int{1, 2}; return l },
		"another path":   func(l []office.Cell) []office.Cell { l[0].Path[1] = 3; return l },
		"a longer path":  func(l []office.Cell) []office.Cell { l[1].Path = []int{2, 3}; return l },
		"no path":        func(l []office.Cell) []office.Cell { l[1].Path = nil; return l },
		"an out":         func(l []office.Cell) []office.Cell { l[1].Out = 1; return l },
		"another fate":   func(l []office.Cell) []office.Cell { l[1].Fate = "left"; return l },
		"no fate":        func(l []office.Cell) []office.Cell { l[0].Fate = ""; return l },
		"a play in the cell before": func(l []office.Cell) []office.Cell {
			l[0].Plays, l[1].Plays = append(l[0].Plays, l[1].Plays[0]), l[1].Plays[1:]
			return l
		},
		"a play in the cell behind": func(l []office.Cell) []office.Cell {
			l[1].Plays, l[0].Plays = append(l[0].Plays, l[1].Plays...), nil
			return l
		},
		"a cell without plays":   func(l []office.Cell) []office.Cell { return append(l, office.Cell{Inning: 1, Slot: 3, Fate: "bat"}) },
		"an empty cell":          func(l []office.Cell) []office.Cell { return append([]office.Cell{{}}, l...) },
		"a cell that is missing": func(l []office.Cell) []office.Cell { return l[:1] },
		"another play":           func(l []office.Cell) []office.Cell { l[0].Plays[0] = "X X 0-2b:6"; l[1].Plays = nil; return l },
		"one cell of two":        func(l []office.Cell) []office.Cell { l[0].Plays = append(l[0].Plays, l[1].Plays...); return l[:1] },
		"a cell in two": func(l []office.Cell) []office.Cell {
			c := l[1]
			c.Plays = c.Plays[1:]
			l[1].Plays = l[1].Plays[:1]
			return append(l, c)
		},
		"the fate of the first half":  func(l []office.Cell) []office.Cell { l[0].Fate = "on"; return l },
		"a wrong cell among many":     func(l []office.Cell) []office.Cell { l[0].Out, l[1].Out = 3, 3; return l },
		"an inning below the first 1": func(l []office.Cell) []office.Cell { l[0].Inning = -1; return l },
	} {
		p, e := office.ReadSheet(change(exampleCells()))
		want(t, "ReadSheet: "+what, []any{p, e}, []any{[]api.Play(nil), api.ErrProof})
	}
}

// written returns cells of no sheet, with plays.
func written(lists ...[]string) []office.Cell {
	var l []office.Cell
	for _, list := range lists {
		l = append(l, office.Cell{Plays: list})
	}
	return l
}

func TestReadSheetErrors(t *testing.T) {
	many := repeated("z", 257)
	for what, row := range map[string]struct {
		cells []office.Cell
		err   api.Errno
	}{
		"too many cells":                    {slices.Repeat(written([]string{"z"}), 257), api.ErrMany},
		"too many cells without plays":      {make([]office.Cell, 257), api.ErrMany},
		"256 cells without plays":           {make([]office.Cell, 256), api.ErrProof},
		"too many plays of a cell":          {written(many), api.ErrMany},
		"too many plays of a later cell":    {written([]string{"z"}, many), api.ErrMany},
		"256 plays of a cell, all wrong":    {written(many[:256]), api.ErrSyntax},
		"too many plays together":           {written(repeated("X -", 200), repeated("- -", 57)), api.ErrMany},
		"too many plays, the last one none": {written(repeated("- -", 200), followed(repeated("- -", 57), "z")), api.ErrSyntax},
		"256 plays together":                {written(repeated("- -", 200), repeated("- -", 56)), api.ErrProof},
		"a string of no play":               {written([]string{"- -", "z"}), api.ErrSyntax},
		"an empty string":                   {written([]string{""}), api.ErrSyntax},
		"a string that is too long":         {written([]string{strings.Repeat("x", 4097)}), api.ErrLong},
		"a play of no form":                 {written([]string{"X X 2-3b"}, []string{"BXB -", "z"}), api.ErrPitch},
		"a move of no form":                 {written([]string{"X X 0-1z"}), api.ErrKind},
		"a play against a rule":             {written([]string{"X X 2-3b 0-1b"}), api.ErrRule},
		"a later play against a rule":       {written([]string{walk}, []string{"X -"}), api.ErrRule},
		"a play behind the end":             {written(ninth(homer, "- -")), api.ErrOver},
		"cells of no sheet":                 {written([]string{walk}), api.ErrProof},
	} {
		p, e := office.ReadSheet(row.cells)
		want(t, "ReadSheet: "+what, []any{p, e}, []any{[]api.Play(nil), row.err})
	}
}
