package play_test

import (
	"fmt"
	"math"
	"slices"
	"strings"
	"testing"

	"dugout/api"
	"dugout/play"
)

// canonical returns the string of a canonical form.
func canonical(t *testing.T, p api.Play) string {
	t.Helper()
	c, e := play.Canonical(p)
	if e != api.OK {
		t.Errorf("Canonical of %v: error %d", p, e)
	}
	s, e := play.Print(c)
	want(t, "the error of the canonical form", e, api.OK)
	return s
}

func TestCanonical(t *testing.T) {
	for _, x := range []struct {
		loose api.Play
		want  string
	}{
		{api.Play{}, "- -"},
		{api.Play{Pitches: "X", Event: "X", Late: true, Moves: []api.Move{safe(0, 1, "b"), safe(3, 3, "t")}}, "X X 0-1b"},
		{api.Play{Moves: []api.Move{out(1, 1, "g", 3, 3, 6)}}, "- - 1x1g:36"},
		{api.Play{Moves: []api.Move{safe(1, 2, "s"), safe(3, 4, "s"), safe(2, 3, "s")}}, "- - 3-4s 2-3s 1-2s"},
		{api.Play{Moves: []api.Move{out(1, 2, "g", 6, 6, 6, 4, 4, 6, 6)}}, "- - 1x2g:646"},
		{api.Play{Moves: []api.Move{out(2, 2, "d", 8, 4)}}, "- - 2x2d:84"},
		{api.Play{Moves: []api.Move{safe(1, 2, "t", 5, 5)}}, "- - 1-2t:5"},
	} {
		want(t, x.want, canonical(t, x.loose), x.want)
	}
}

func TestCanonicalStays(t *testing.T) {
	for from := 1; from <= 3; from++ {
		for _, how := range []string{"a", "s", "p", "k", "t", "o"} {
			p := api.Play{Moves: []api.Move{safe(from, from, how)}}
			want(t, fmt.Sprint("stay ", p), canonical(t, p), "- -")
		}
	}
	for what, x := range map[string]struct {
		move api.Move
		err  api.Errno
	}{
		"by b":                    {safe(2, 2, "b"), api.ErrMove},
		"the batter":              {safe(0, 0, "t"), api.ErrRange},
		"at home":                 {safe(4, 4, "t"), api.ErrRange},
		"in no way":               {safe(2, 2, "z"), api.ErrKind},
		"in a way of outs":        {safe(2, 2, "g"), api.ErrKind},
		"out by force at his own": {out(2, 2, "f", 4), api.ErrMove},
		"out in a way of stays":   {out(2, 2, "t", 4), api.ErrKind},
	} {
		c, e := play.Canonical(api.Play{Moves: []api.Move{x.move}})
		want(t, "stay "+what, e, x.err)
		want(t, "its play", c, api.Play{})
	}
	want(t, "touches of one who stays", canonical(t, api.Play{Moves: []api.Move{safe(2, 2, "t", 0, 77)}}), "- -")
}

func TestCanonicalLate(t *testing.T) {
	for _, x := range []struct {
		moves []api.Move
		want  string
	}{
		{nil, "- -"},
		{[]api.Move{safe(3, 4, "t")}, "- - 3-4t"},
		{[]api.Move{out(1, 2, "g", 4)}, "- - 1x2g:4"},
		{[]api.Move{safe(3, 4, "t"), out(1, 2, "g", 4)}, "- - late 3-4t 1x2g:4"},
		{[]api.Move{safe(2, 3, "t"), out(1, 2, "g", 4)}, "- - 2-3t 1x2g:4"},
		{[]api.Move{safe(0, 4, "b"), out(1, 2, "g", 4)}, "- - late 1x2g:4 0-4b"},
		{[]api.Move{out(3, 4, "g", 2), safe(1, 2, "t")}, "- - 3x4g:2 1-2t"},
		{[]api.Move{out(3, 4, "g", 2), safe(2, 2, "t")}, "- - 3x4g:2"},
	} {
		p := api.Play{Late: true, Moves: x.moves}
		want(t, x.want, canonical(t, p), x.want)
		p.Late = false
		want(t, x.want+", not late", canonical(t, p), strings.Replace(x.want, "late ", "", 1))
	}
}

func TestCanonicalErrors(t *testing.T) {
	many := make([]int, 37)
	for i := range many {
		many[i] = 6
	}
	stay := api.Move{From: 1, To: 1, How: "t"}
	for what, x := range map[string]struct {
		play api.Play
		err  api.Errno
	}{
		"25 pitches":                  {api.Play{Pitches: strings.Repeat("q", 25)}, api.ErrMany},
		"5 moves":                     {api.Play{Moves: []api.Move{stay, stay, stay, stay, stay}}, api.ErrMany},
		"37 touches":                  {api.Play{Moves: []api.Move{safe(2, 3, "t", many...)}}, api.ErrMany},
		"37 touches of one twice":     {api.Play{Moves: []api.Move{stay, stay, safe(2, 3, "t", many...)}}, api.ErrMany},
		"25 pitches, a runner twice":  {api.Play{Pitches: strings.Repeat("F", 25), Moves: []api.Move{stay, stay}}, api.ErrMany},
		"24 pitches, a runner twice":  {api.Play{Pitches: strings.Repeat("F", 24), Moves: []api.Move{stay, stay}}, api.ErrTwice},
		"37 touches of one who stays": {api.Play{Moves: []api.Move{safe(1, 1, "t", many...)}}, api.ErrMany},
		"a runner twice":              {api.Play{Pitches: "Q", Moves: []api.Move{safe(1, 2, "t"), stay}}, api.ErrTwice},
		"a runner who is none twice":  {api.Play{Moves: []api.Move{safe(math.MinInt, 2, "t"), stay, safe(math.MinInt, 2, "t")}}, api.ErrTwice},
		"pitches":                     {api.Play{Pitches: "Q", Event: "Q"}, api.ErrPitch},
		"the event":                   {api.Play{Event: "Q"}, api.ErrKind},
		"a move":                      {api.Play{Moves: []api.Move{safe(1, 2, "z")}}, api.ErrKind},
		"the first move in order":     {api.Play{Moves: []api.Move{safe(1, 2, "z"), safe(2, 3, "t", 0)}}, api.ErrTouch},
		"the lowest base last":        {api.Play{Moves: []api.Move{safe(math.MinInt, 2, "t"), safe(math.MaxInt, 2, "t"), safe(2, 3, "z")}}, api.ErrRange},
		"no touch of an out":          {api.Play{Moves: []api.Move{out(1, 2, "f")}}, api.ErrTouch},
		"the touch 0":                 {api.Play{Moves: []api.Move{out(1, 2, "f", 0, 3)}}, api.ErrTouch},
		"the touches 0 and 0":         {api.Play{Moves: []api.Move{out(1, 2, "f", 3, 0, 0)}}, api.ErrTouch},
		"ten that differ":             {api.Play{Moves: []api.Move{out(1, 2, "f", 1, 2, 1, 2, 1, 2, 1, 2, 1, 2)}}, api.ErrTouch},
	} {
		c, e := play.Canonical(x.play)
		want(t, what, e, x.err)
		want(t, "the form of "+what, c, api.Play{})
		is, e := play.Equal(x.play, api.Play{Pitches: strings.Repeat("B", 30)})
		want(t, what+", first", e, x.err)
		want(t, what+", first", is, false)
		is, e = play.Equal(api.Play{}, x.play)
		want(t, what+", second", e, x.err)
		want(t, what+", second", is, false)
	}
	want(t, "24 pitches", canonical(t, api.Play{Pitches: strings.Repeat("F", 24)}), strings.Repeat("F", 24)+" -")
	want(t, "36 touches", canonical(t, api.Play{Moves: []api.Move{safe(2, 3, "t", many[:36]...)}}), "- - 2-3t:6")
}

func TestEqual(t *testing.T) {
	a := parsed(t, "X X late 3-4b 1x2g:84 0-1b")
	same := func(b api.Play) bool {
		is, e := play.Equal(a, b)
		want(t, "the error of Equal", e, api.OK)
		back, _ := play.Equal(b, a)
		want(t, "Equal, exchanged", back, is)
		return is
	}
	want(t, "itself", same(a), true)
	want(t, "in another order", same(api.Play{Pitches: "X", Event: "X", Late: true, Moves: []api.Move{a.Moves[2], a.Moves[0], safe(2, 2, "t"), out(1, 2, "g", 8, 8, 4)}}), true)
	for _, s := range []string{"BX X late 3-4b 1x2g:84 0-1b", "X Y late 3-4b 1x2g:84 0-1b", "X X 3-4b 1x2g:84 0-1b", "X X late 3-4b 1x2g:84", "X X late 3-4b 1x2g:85 0-1b", "X X late 3-4b 1x2g:8 0-1b", "X X late 3-4b 1x2f:84 0-1b", "X X late 3-4b 1x3g:84 0-1b", "X X late 3-4b 2x3g:84 0-1b"} {
		want(t, s, same(parsed(t, s)), false)
	}
	is, _ := play.Equal(parsed(t, "- - late 3-4s"), parsed(t, "- - 3-4s"))
	want(t, "late without effect", is, true)
}

// Arguments are left as they are, and results share no memory with them.
func TestCanonicalMemory(t *testing.T) {
	touches := []int{3, 3, 6}
	moves := []api.Move{out(1, 1, "g", touches...), safe(3, 4, "t", 2), safe(2, 2, "t")}
	p := api.Play{Moves: slices.Clone(moves)}
	c, _ := play.Canonical(p)
	want(t, "the moves of the argument", p.Moves, moves)
	want(t, "the touches of the argument", p.Moves[0].By, []int{3, 3, 6})
	c.Moves[0].By[0], c.Moves[1].By[0] = 9, 9
	want(t, "the touches behind a change", p.Moves[0].By, []int{3, 3, 6})
	want(t, "the touch behind a change", p.Moves[1].By, []int{2})
}
