package judge_test

import (
	"fmt"
	"math"
	"slices"
	"testing"

	"dugout/api"
	"dugout/judge"
)

func TestKinds(t *testing.T) {
	want(t, "Kinds", judge.Kinds(), kindList)
	changed := judge.Kinds()
	changed[0] = "walk"
	want(t, "Kinds, when a result was changed", judge.Kinds(), kindList)
	for i, kind := range kindList {
		n, e := judge.Rule(kind)
		want(t, "Rule of "+kind, []any{n, e}, []any{i + 1, api.OK})
	}
	for _, kind := range []string{"", "walk", "Hit", "hit ", " hit", "hits", "hi", "\xff"} {
		n, e := judge.Rule(kind)
		want(t, fmt.Sprintf("Rule of %q", kind), []any{n, e}, []any{0, api.ErrKind})
	}
}

// everyRuling visits all judgments about a move with the kinds, and with bases and fielders around those that exist.
func everyRuling(at, from int, visit func(api.Judgment)) {
	for i, kind := range kindList {
		for base := -1; base <= 5; base++ {
			for fielder := -1; fielder <= 10; fielder++ {
				visit(api.Judgment{Play: at, From: from, Kind: kind, Base: base, Fielder: fielder, Rule: i + 1})
			}
		}
	}
}

func TestFits(t *testing.T) {
	for _, row := range []struct {
		plays []string // the last one is judged
		from  int
		fit   []string // kind, base and fielder
	}{
		// the batter puts the ball in play
		{[]string{"X X 0-1b"}, 0, []string{"hit 1 0", "choice 0 0"}},
		{[]string{"X X 0-1b:63"}, 0, []string{"hit 1 0", "life 0 3", "life 0 6", "choice 0 0"}},
		{[]string{"X X 0-2b:8"}, 0, []string{"hit 1 0", "hit 2 0", "life 0 8", "error 1 8", "choice 0 0"}},
		{[]string{"X X 0-4t:89"}, 0, []string{"hit 1 0", "hit 2 0", "hit 3 0", "hit 4 0", "life 0 8", "life 0 9", "error 1 8", "error 1 9", "error 2 8", "error 2 9", "error 3 8", "error 3 9", "choice 0 0"}},
		{[]string{"X X 0-1t:6"}, 0, []string{"hit 1 0", "life 0 6", "choice 0 0"}},
		{[]string{"X X 0-1o:3"}, 0, nil},
		{[]string{"X X 0x1f:63"}, 0, nil},
		{[]string{"X X 0x2g:84"}, 0, nil},
		{[]string{"X X 0x1c:8"}, 0, nil},
		// the batter does not
		{[]string{"BBBB W 0-1a"}, 0, nil},
		{[]string{"H H 0-1a:2"}, 0, nil},
		{[]string{"CCS K 0x1k:2"}, 0, nil},
		{[]string{"CCS K 0-1p"}, 0, []string{"wild 0 0", "passed 0 0"}},
		{[]string{"CCS K 0-2p:2"}, 0, []string{"error 1 2", "wild 0 0", "passed 0 0"}},
		{[]string{"CCS K 0-1t:23"}, 0, []string{"life 0 2", "life 0 3"}},
		{[]string{"CCS K 0-3t:2"}, 0, []string{"life 0 2", "error 1 2", "error 2 2"}},
		// runners
		{[]string{"X X 0-1b", "C - 1-2p"}, 1, []string{"wild 0 0", "passed 0 0"}},
		{[]string{"X X 0-1b", "C - 1-3p:28"}, 1, []string{"error 1 2", "error 1 8", "error 2 2", "error 2 8", "wild 0 0", "passed 0 0"}},
		{[]string{"X X 0-1b", "C - 1-2s"}, 1, []string{"steal 0 0", "idle 0 0"}},
		{[]string{"X X 0-1b", "C - 1-3s:26"}, 1, []string{"life 0 2", "life 0 6", "error 1 2", "error 1 6", "error 2 2", "error 2 6", "steal 0 0", "idle 0 0"}},
		{[]string{"X X 0-1b", "C - 1-2t:13"}, 1, []string{"life 0 1", "life 0 3", "error 1 1", "error 1 3"}},
		{[]string{"X X 0-2b", "X X 2-4b:8 0-1b"}, 2, []string{"life 0 8", "error 2 8", "error 3 8"}},
		{[]string{"X X 0-3b", "X X 3-4b:1 0-1b"}, 3, []string{"life 0 1", "error 3 1"}},
		{[]string{"X X 0-1b", "BBBB W 1-2a:2 0-1a"}, 1, nil},
		{[]string{"X X 0-1b", "C - 1-2k:1"}, 1, nil},
		{[]string{"X X 0-1b", "C - 1-2o:3"}, 1, nil},
		{[]string{"X X 0-1b", "C - 1x2g:26"}, 1, nil},
		{[]string{"X X 0-1b", "X X 1x2f:64 0-1b"}, 1, nil},
		{[]string{"X X 0-1b", "X X 1x1d:83 0x1c:8"}, 1, nil},
		// sacrifices
		{[]string{"X X 0-1b", "X X 1-2b 0x1f:13"}, 0, []string{"sacrifice 0 0"}},
		{[]string{"X X 0-1b", "X X 0x1f:13"}, 0, nil},
		{[]string{"X X 0-1b", "X X 1x2f:64 0x1f:643"}, 0, nil},
		{[]string{"X X 0-1b", "X X 1x2f:64 0-1b:6"}, 0, []string{"hit 1 0", "life 0 6", "choice 0 0"}},
		{[]string{"X X 0-3b", "X X 3-4t 0x1c:8"}, 0, []string{"sacrifice 0 0"}},
		{[]string{"X X 0-3b", "X X 3-4o 0x2g:84"}, 0, []string{"sacrifice 0 0"}},
		{[]string{"X X 0-3b", "X X 3-4o 0-1o:3"}, 0, nil},
		{[]string{"X X 0-3b", "X X 3-4b:1 0-1b:1"}, 0, []string{"hit 1 0", "life 0 1", "choice 0 0", "sacrifice 0 0"}},
		{[]string{"X X 0-3b", "X X 3-4b 0-1t"}, 0, []string{"hit 1 0", "choice 0 0", "sacrifice 0 0"}},
		{[]string{"X X 0-3b", "CCS K 3-4p 0x1k:2"}, 0, nil},
		{[]string{"X X 0-3b", "X X 0x1f:63", "X X 3-4b 0x1f:63"}, 0, []string{"sacrifice 0 0"}},
		{[]string{"X X 0-3b", "X X 0x1f:63", "X X 0x1f:63", "X X 3-4b 0x1f:63"}, 0, nil},
		{[]string{"X X 0-3b", "X X 0x1f:63", "X X 0x1f:63", "X X 3-4b 0-1b"}, 0, []string{"hit 1 0", "choice 0 0"}},
		{[]string{"X X 0-1b", "X X 1-2b 0-1b", "X Y 2-3t 1-2t 0x1y:6"}, 0, nil},
		{[]string{"X X 0-1b", "X X 1-2b 0-1b", "X X 2x3f:5 1-2b 0-1b"}, 0, []string{"hit 1 0", "choice 0 0", "sacrifice 0 0"}},
		{[]string{"X X 0-1b", "X X 1-2b 0-1b", "X X 2-3b 1-2b 0-1b", "- I 3-4a 2-3a 1-2a 0-1a"}, 0, nil},
	} {
		g := acts(t, row.plays...)
		at := len(g) - 1
		var fit []string
		everyRuling(at, row.from, func(j api.Judgment) {
			switch e := judge.Fits(g, j); e {
			case api.OK:
				fit = append(fit, fmt.Sprintf("%s %d %d", j.Kind, j.Base, j.Fielder))
			case api.ErrJudge:
			default:
				t.Errorf("%v: Fits %v: error %d", row.plays, j, e)
			}
		})
		want(t, fmt.Sprintf("what fits %d in %v", row.from, row.plays), fit, row.fit)
	}
}

func TestFitsWrong(t *testing.T) {
	g := example(t)
	for what, row := range map[string]struct {
		j   api.Judgment
		err api.Errno
	}{
		"no play":              {ruling("3 0 hit 1 0"), api.ErrUnknown},
		"a negative play":      {ruling("-1 0 hit 1 0"), api.ErrUnknown},
		"a play far away":      {ruling("9223372036854775807 0 hit 1 0"), api.ErrUnknown},
		"no play, and no kind": {ruling("3 0 walk 1 0"), api.ErrUnknown},
		"no kind":              {ruling("0 0 walk 1 0"), api.ErrKind},
		"an empty kind":        {api.Judgment{Rule: 1, Base: 1}, api.ErrKind},
		"no kind, and no rule": {withRule("0 1 walk 1 0", 10), api.ErrKind},
		"another rule":         {withRule("0 0 hit 1 0", 2), api.ErrRule},
		"the rule 0":           {withRule("0 0 hit 1 0", 0), api.ErrRule},
		"a rule, and no move":  {withRule("0 1 hit 1 0", 2), api.ErrRule},
		"no move":              {ruling("0 1 hit 1 0"), api.ErrNone},
		"no move of a runner":  {ruling("2 3 error 3 8"), api.ErrNone},
		"no move of a batter":  {ruling("1 0 hit 1 0"), api.ErrNone},
		"no base":              {ruling("2 4 error 3 8"), api.ErrNone},
		"a negative base":      {ruling("2 -1 error 3 8"), api.ErrNone},
		"what does not fit":    {ruling("0 0 steal 0 0"), api.ErrJudge},
		"a wrong base":         {ruling("0 0 hit 2 0"), api.ErrJudge},
		"a great base":         {api.Judgment{Kind: "hit", Base: math.MaxInt, Rule: 1}, api.ErrJudge},
		"a wrong fielder":      {ruling("0 0 life 0 5"), api.ErrJudge},
		"a great fielder":      {api.Judgment{Kind: "life", Fielder: math.MinInt, Rule: 2}, api.ErrJudge},
	} {
		want(t, "Fits: "+what, judge.Fits(g, row.j), row.err)
	}
	for what, row := range wrongGames(t) {
		want(t, "Fits: "+what, judge.Fits(row.plays, ruling("999 9 walk 9 9")), row.err)
	}
	want(t, "Fits of no plays", judge.Fits(nil, ruling("0 0 hit 1 0")), api.ErrUnknown)
}

// rivals are the kinds that exclude each kind in judgments about the same move, whatever their bases and fielders.
var rivals = map[string][]string{
	"hit":       {"hit", "life", "choice", "sacrifice"},
	"life":      {"hit", "life", "error", "choice", "steal", "idle"},
	"error":     {"life", "error"},
	"choice":    {"hit", "life", "choice"},
	"wild":      {"wild", "passed"},
	"passed":    {"wild", "passed"},
	"steal":     {"life", "steal", "idle"},
	"idle":      {"life", "steal", "idle"},
	"sacrifice": {"hit", "sacrifice"},
	"walk":      {"walk"},
	"":          {""},
}

// excludeByDefinition reports whether two judgments exclude one another, as the document says it.
func excludeByDefinition(a, b api.Judgment) bool {
	if a == b || a.Play != b.Play {
		return false
	}
	if a.From != b.From {
		return a.Kind == "wild" && b.Kind == "passed" || a.Kind == "passed" && b.Kind == "wild"
	}
	beyond := a.Kind == "hit" && b.Kind == "error" && a.Base > b.Base || a.Kind == "error" && b.Kind == "hit" && b.Base > a.Base
	return slices.Contains(rivals[a.Kind], b.Kind) || beyond
}

func TestExcludes(t *testing.T) {
	var l []api.Judgment
	for _, kind := range append(slices.Clone(kindList), "walk", "") {
		for n := range 16 {
			j := api.Judgment{Play: n & 1, From: n >> 1 & 1, Kind: kind, Base: 1 + n>>2&1, Fielder: n >> 3 & 1}
			j.Rule, _ = judge.Rule(kind)
			l = append(l, j)
		}
	}
	for _, a := range l {
		for _, b := range l {
			if judge.Excludes(a, b) != excludeByDefinition(a, b) {
				t.Errorf("Excludes %v and %v: got %v", a, b, judge.Excludes(a, b))
			}
		}
	}
	same := ruling("0 0 hit 1 0")
	want(t, "judgments that differ by their rules", judge.Excludes(same, withRule("0 0 hit 1 0", 7)), true)
	want(t, "kinds count, and not rules", judge.Excludes(withRule("0 0 steal 0 0", 1), withRule("0 0 wild 0 0", 1)), false)
	want(t, "judgments of no play", judge.Excludes(ruling("-1 -5 hit 1 0"), ruling("-1 -5 life 0 6")), true)
	want(t, "a kind and no kind", judge.Excludes(ruling("0 0 wild 0 0"), api.Judgment{}), false)
}
