package rule_test

import (
	"strings"
	"testing"

	"dugout/api"
	"dugout/play"
	"dugout/rule"
)

func TestRuleNames(t *testing.T) {
	names := []string{"pitches", "event", "batter", "runners", "batter's way", "third strike", "infield fly", "ways", "balk", "awards", "order", "outs", "late runs"}
	want(t, "the rules", rule.Rules(), names)
	want(t, "their number", len(names), rule.MaxRules)
	rule.Rules()[0] = "changed"
	want(t, "the rules behind a change", rule.Rules(), names)
}

// States that several rules are tried in; half and score do not matter to them.
const (
	empty   = "1t 0 0-0 000 11 0:0 on"
	first   = "1t 0 0-0 100 21 0:0 on"
	second  = "1t 0 0-0 010 21 0:0 on"
	third   = "1t 0 0-0 001 21 0:0 on"
	two     = "1t 0 0-0 210 31 0:0 on"
	corners = "1t 0 0-0 201 31 0:0 on"
	full    = "1t 0 0-0 321 41 0:0 on"
)

// with returns a state's string with other outs and another count.
func with(outs, count, s string) string {
	words := strings.Split(s, " ")
	words[1], words[2] = outs, count
	return strings.Join(words, " ")
}

// asked expects plays to break a rule first, or none for 0.
func asked(t *testing.T, broken int, from string, list ...string) {
	t.Helper()
	for _, s := range list {
		if broken != 0 {
			refused(t, from+", "+s, state(t, from), act(t, s), broken, api.ErrRule)
			continue
		}
		_, n, e := rule.Apply(state(t, from), act(t, s))
		want(t, from+", "+s, e, api.OK)
		want(t, from+", "+s+", the rule", n, 0)
	}
}

func TestRuleOfPitches(t *testing.T) {
	asked(t, 0, empty, "- -", "BBB -", "BBBB W 0-1a", "FFFFFFFFFFFFFFFFFFFFFFFF -", "BBBCCX X 0-1b", "CCFFS K 0x1k:2")
	asked(t, 1, empty, "BBBBB W 0-1a", "CCCF -", "BBBBX X 0-1b", "CCSH H 0-1a", "CSCX - 1-2s")
	asked(t, 1, with("0", "3-0", empty), "BB W 0-1a", "BC -")
	asked(t, 1, with("0", "0-2", empty), "CB -", "SX X 0-1b")
	asked(t, 0, with("0", "0-2", empty), "FFFB -")
}

func TestRuleOfTheEvent(t *testing.T) {
	for pitches, events := range map[string]string{"CCS": "K", "BBBB": "W", "H": "H", "X": "XY", "": "-IN", "BF": "-IN"} {
		for _, play := range []string{"-", "K 0x1k:2", "W 0-1a", "H 0-1a", "I 0-1a", "X 0x1c:8", "N 0x1n:2", "Y 0x1y:4"} {
			broken := 2
			if strings.Contains(events, play[:1]) {
				broken = 0
			}
			from := two
			if strings.Contains("WHI", play[:1]) {
				from = empty
			}
			word := pitches
			if word == "" {
				word = "-"
			}
			asked(t, broken, from, word+" "+play)
		}
	}
	asked(t, 2, empty, "CCS -", "X - 0-1b", "C K", "- X")
}

func TestRuleOfTheBatter(t *testing.T) {
	asked(t, 3, empty, "X X", "CCS K", "BBBB W", "H H", "- I", "- N", "- - 0-1t", "B - 0x1g:2", "- - 1-2s 0-1b")
	asked(t, 3, first, "X X 1-2b", "X Y", "X Y 2-3b")
}

func TestRuleOfRunners(t *testing.T) {
	asked(t, 4, empty, "- - 1-2s", "- - 3x4g:2", "X X 2x2d:84 0x1c:8", "X X 1-2b 0-1a")
	asked(t, 4, first, "- - 2-3s", "X X 3-4b 1-2b 0-1b", "- - 3-4k 1-2k")
	asked(t, 4, third, "- - 3-4s 1-2s", "- - 2-3s")
	asked(t, 0, full, "X X 3-4b 2-3b 1-2b 0-1b")
	asked(t, 0, "1b 0 0-0 100 22 0:0 on", "- - 1-2s")
}

// battersMoves returns the strings of all moves of a batter that have their form.
func battersMoves() []string {
	var moves []string
	for _, mark := range []string{"0-", "0x"} {
		for _, to := range []string{"1", "2", "3", "4"} {
			for _, how := range strings.Split("baspktofgcdny", "") {
				s := mark + to + how + ":3"
				if p, _, e := play.Parse("- - " + s); e == api.OK && len(p.Moves) == 1 {
					moves = append(moves, s)
				}
			}
		}
	}
	return moves
}

func TestRuleOfTheBattersWay(t *testing.T) {
	tags := " 0x1g 0x2g 0x3g 0x4g"
	for start, permitted := range map[string]string{
		empty + ", CCS K":  "0x1k 0x1f 0-1p 0-2p 0-3p 0-4p 0-1t 0-2t 0-3t 0-4t" + tags,
		empty + ", BBBB W": "0-1a",
		empty + ", H H":    "0-1a",
		empty + ", - I":    "0-1a",
		empty + ", X X":    "0-1b 0-2b 0-3b 0-4b 0-1t 0-2t 0-3t 0-4t 0-1o 0-2o 0-3o 0-4o 0x1f 0x1c" + tags,
		empty + ", - N":    "0x1n 0x2n 0x3n 0x4n",
		two + ", X Y":      "0x1y",
	} {
		from, words, _ := strings.Cut(start, ", ")
		for _, m := range battersMoves() {
			broken := 5
			if strings.Contains(permitted, m[:4]) {
				broken = 0
			}
			asked(t, broken, from, words+" "+m)
		}
	}
}

func TestRuleOfTheThirdStrike(t *testing.T) {
	safe, forced, tagged := "CCS K 1-2p 0-1p", "CCS K 0x1f:23", "CCS K 0x1g:2"
	asked(t, 6, first, safe, forced, tagged)
	asked(t, 6, with("1", "0-0", first), safe, forced, tagged)
	asked(t, 0, with("2", "0-0", first), safe, forced, tagged)
	asked(t, 0, first, "CCS K 0x1k:2", "CCS K 1-2s 0x1k:2", "X X 0x1f:3")
	asked(t, 6, two, "CCS K 0-1p")
	asked(t, 6, corners, "CCS K 0-1t")
	asked(t, 0, second, "CCS K 0-1p", forced, tagged)
	asked(t, 0, third, "CCS K 0-1t:2", forced, tagged)
	asked(t, 0, empty, "CCS K 0-1p", forced, tagged)
}

func TestRuleOfTheInfieldFly(t *testing.T) {
	fly := "X Y 0x1y:4"
	asked(t, 0, two, fly)
	asked(t, 0, with("1", "0-0", two), fly)
	asked(t, 0, full, fly)
	asked(t, 7, with("2", "0-0", two), fly)
	asked(t, 7, empty, fly)
	asked(t, 7, first, fly)
	asked(t, 7, second, fly)
	asked(t, 7, third, fly)
	asked(t, 7, corners, fly)
	asked(t, 7, "1t 0 0-0 021 31 0:0 on", fly)
}

// With the bases full, each way of the runner on third base is tried beside each event.
func TestRuleOfWays(t *testing.T) {
	for rest, permitted := range map[string]string{
		"B -":                     "-s -p -k -t -o xg xn",
		"CCS K, 0x1k:2":           "-s -p -t -o xg xn",
		"BBBB W, 2-3a 1-2a 0-1a":  "-a -s -p -t -o xg xn",
		"BH H, 2-3a 1-2a 0-1a":    "-a",
		"B I, 2-3a 1-2a 0-1a":     "-a",
		"X X, 2-3b 1-2b 0-1b":     "-b -t -o xf xg xn",
		"X X, 2-3b 1-2b 0x1f:3":   "-b -t -o xf xg xn",
		"X X, 2-3b 1-2b 0x1g:3":   "-b -t -o xf xg xn",
		"X X, 0x1c:8":             "-b -t -o xg xn xd",
		"B N, 0x1n:2":             "",
		"X Y, 0x1y:4":             "-b -t -o xg xn xd",
		"CCS K, 2-3t 1-2t 0-1t":   "-s -p -t -o xf xg xn",
		"CCS K, 2-3t 1-2t 0x1f:3": "-s -p -t -o xf xg xn",
	} {
		head, tail, _ := strings.Cut(rest, ",")
		from := full
		if strings.HasPrefix(rest, "CCS") {
			from = with("2", "0-0", full)
		}
		for _, way := range strings.Split("-b -a -s -p -k -t -o xf xg xn xd", " ") {
			move := "3" + way[:1] + "4" + way[1:] + ":2"
			if way == "xd" {
				move = "3x3d:25"
			}
			_, n, _ := rule.Apply(state(t, from), act(t, head+" "+move+tail))
			want(t, "breaking the rule of ways: "+head+" "+move+tail, n == 8, !strings.Contains(permitted, way))
			want(t, "breaking a rule before it: "+head+" "+move+tail, n > 0 && n < 8, false)
		}
	}
}

func TestRuleOfWaysOfSafeMoves(t *testing.T) {
	asked(t, 0, second, "BBBB W 0-1a", "H H 0-1a")
	asked(t, 8, second, "BBBB W 2-3a 0-1a", "H H 2-3a 0-1a", "- I 2-3a 0-1a", "X X 2-3s 0-1b")
	asked(t, 8, corners, "BBBB W 3-4a 1-2a 0-1a")
	asked(t, 8, two, "BBBB W 2-4a 1-2a 0-1a", "H H 2-4a 1-3a 0-1a")
	asked(t, 0, two, "H H 2-3a 1-2a 0-1a", "- I 2-3a 1-2a 0-1a", "BBBB W 2-3s 1-2p 0-1a")
	asked(t, 8, first, "- - 1-2p", "- - 1-2b", "- - 1-2a")
	asked(t, 0, first, "B - 1-2p", "- - 1-2t", "- - 1-3o", "- - 1-2s", "C - 1-2k")
	asked(t, 8, first, "X X 1-2p 0-1b", "H H 1-2p 0-1a", "B I 1-2p 0-1a", "X X 1-2k 0-1b")
}

func TestRuleOfWaysOfOuts(t *testing.T) {
	asked(t, 0, first, "X X 1x2f:64 0-1b", "X X 1x2f:64 0x1f:643", "- - 1x1g:13", "- - 1x2n:4", "X X 1x1d:83 0x1c:8")
	asked(t, 8, first, "- - 1x2f:4", "BBBB W 1x2f:24 0-1a", "X X 1x2f:4 0x1c:8", "CCS K 1x2f:24 0x1k:2")
	asked(t, 8, first, "- - 1x1d:3", "X X 1x1d:83 0-1b", "X X 1x1d:3 0x1f:3", "CCS K 1x1d:23 0x1k:2", "X X 1x1d:3 0x1g:3")
	asked(t, 8, second, "X X 2x3f:5 0-1b", "X X 2x3f:5 0x1f:53")
	asked(t, 8, corners, "X X 3x4f:2 1-2b 0-1b")
	asked(t, 0, third, "BBBB W 3x4g:2 0-1a", "BBBB W 3x4n:2 0-1a")
	asked(t, 8, third, "H H 3x4g:2 0-1a", "- I 3x4n:2 0-1a", "- N 3x4g:2 0x1n:2")
	asked(t, 0, two, "X Y 2x2d:4 0x1y:4", "X Y 1x1d:43 0x1y:4")
	asked(t, 8, two, "X Y 1x2f:4 0x1y:4")
}

func TestRuleOfTheBalk(t *testing.T) {
	asked(t, 0, two, "- - 2-3k 1-2k", "B - 2-3k 1-2k", "CCS K 0x1k:2")
	asked(t, 9, two, "- - 2-3k", "- - 1-2k", "- - 2-4k 1-2k", "- - 2-3k 1-3k", "- - 2-3k 1-2s", "- - 2x3g:5 1-2k", "- - 2-4s 1-2k")
	asked(t, 0, full, "- - 3-4k 2-3k 1-2k")
	asked(t, 9, full, "- - 3-4k 2-3k", "- - 3-4k 1-2k")
	asked(t, 0, first, "- - 1-2k")
	asked(t, 9, first, "- - 1-3k", "- - 1-4k")
	asked(t, 0, third, "- - 3-4k")
}

func TestRuleOfAwards(t *testing.T) {
	asked(t, 10, first, "BBBB W 0-1a", "H H 0-1a", "- I 0-1a", "BBBB W 1x2g:24 0-1a")
	asked(t, 0, first, "BBBB W 1-2a 0-1a", "BBBB W 1-2s 0-1a", "BBBB W 1-3p 0-1a")
	asked(t, 10, two, "BBBB W 2-3a 0-1a", "BBBB W 1-2a 0-1a", "BBBB W 2x3g:25 1-2a 0-1a")
	asked(t, 10, full, "H H 2-3a 1-2a 0-1a", "BBBB W 3x4g:2 2-3a 1-2a 0-1a")
	asked(t, 0, full, "H H 3-4a 2-3a 1-2a 0-1a")
	asked(t, 0, corners, "BBBB W 1-2a 0-1a", "BBBB W 3x4g:2 1-2a 0-1a")
	asked(t, 0, second, "BBBB W 0-1a", "BBBB W 2x3g:25 0-1a")
	asked(t, 0, first, "CCS K 0x1k:2", "X X 0x1c:8", "- N 0x1n:2")
}

func TestRuleOfOrder(t *testing.T) {
	asked(t, 11, two, "- - 1-2s", "- - 1-3s", "X X 2-3b 1-3b 0-1b", "X X 1-4b 0-1b", "X X 2-3b 1-2b 0-2b", "X X 2-3b 0-1b")
	asked(t, 11, first, "X X 0-1b", "X X 1-2b 0-2b", "X X 1-3b 0-4b", "X X 0-2b")
	asked(t, 11, corners, "- - 1-3s", "X X 1-4b 0-1b", "X X 1-3b 0-1b")
	asked(t, 0, corners, "X X 0x1c:8", "X X 1-2b 0-1b", "- - 3-4s 1-3s", "- - 3-4s 1-4t", "- - 3x4g:2 1-3t")
	asked(t, 0, full, "X X 3-4b 2-4b 1-4b 0-4b", "X X 3x4f:2 2-3b 1-2b 0-1b", "X X 3-4b 2-4b 1x3g:85 0-3t")
	asked(t, 0, first, "X X 1x2f:64 0-1b", "X X 1x1g:3 0-1b", "X X 1-3b 0-2b")
}

func TestRuleOfOuts(t *testing.T) {
	double, triple := "X X 1x2f:6 0x1f:63", "X X 2x3f:5 1x2f:54 0x1f:543"
	asked(t, 0, two, "X X 2-3b 1x2f:6 0x1f:63", triple)
	asked(t, 0, with("1", "0-0", first), double)
	asked(t, 12, with("2", "0-0", first), double)
	asked(t, 12, with("1", "0-0", two), triple)
	asked(t, 12, with("2", "0-0", two), triple, "- - 2x3g:5 1x2g:4")
	asked(t, 12, full, "X X 3x4f:2 2x3f:25 1x2f:254 0x1f:2543")
}

func TestRuleOfLateRuns(t *testing.T) {
	asked(t, 13, empty, "- - late", "X X late 0-4b", "X X late 0x1c:8")
	asked(t, 13, with("2", "0-0", empty), "X X late 0x1c:8", "X X late 0-4b")
	asked(t, 13, with("1", "0-0", second), "X X late 2-4b 0x2g:84")
	asked(t, 0, with("2", "0-0", second), "X X late 2-4b 0x2g:84", "X X late 2-4b 0x1f:63")
	asked(t, 13, with("2", "0-0", third), "- - late 3x4g:2")
	asked(t, 0, with("1", "0-0", corners), "X X late 3-4b 1x2f:64 0x1f:643")
}

// Where several rules are broken, the first one is told.
func TestFirstBrokenRule(t *testing.T) {
	asked(t, 1, empty, "CCCC W late 3-4s 0-1b")
	asked(t, 2, empty, "CCC W late 3-4s 0-1b", "CCC W", "X -")
	asked(t, 3, empty, "B - late 3-4b 0-1b")
	asked(t, 4, empty, "CCS K 1-2a 0-1a", "- N 1x2g:4 0-1a")
	asked(t, 5, first, "CCS K 1-2a 0-1b", "X Y 1-2s 0-1b")
	asked(t, 6, first, "CCS K 1-2a 0-1p")
	asked(t, 7, first, "X Y 1-2s 0x1y:4")
	asked(t, 8, two, "H H 2-3s 1-2s 0-1a", "X X 1-2k 0-1b")
	asked(t, 9, two, "- - 1-2k")
	asked(t, 10, two, "BBBB W late 0-1a", "BBBB W 1-2a 0-1a")
	asked(t, 11, with("2", "0-0", two), "X X late 1-2b 0-1b")
	asked(t, 11, with("2", "0-0", full), "X X late 2x3g:5 1x2f:4 0-3b")
	asked(t, 12, with("2", "0-0", two), "X X late 2x3g:5 1x2f:4 0-1b")
}
