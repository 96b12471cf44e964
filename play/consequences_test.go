package play_test

import (
	"fmt"
	"math/rand"
	"strings"
	"testing"

	"dugout/api"
	"dugout/play"
)

// movesFrom returns moves of one runner that have their form.
func movesFrom(from int) []api.Move {
	var moves []api.Move
	for _, isOut := range []bool{false, true} {
		for to := 1; to <= 4; to++ {
			for _, how := range strings.Split("b a s p k t o f g c d n y", " ") {
				for _, by := range [][]int{nil, {7}, {6, 4, 6}, {1, 2, 3, 4, 5, 6, 7, 8, 9}} {
					m := api.Move{From: from, To: to, Out: isOut, How: how, By: by}
					if play.CheckMove(m) == api.OK {
						moves = append(moves, m)
					}
				}
			}
		}
	}
	return moves
}

// somePlays returns plays of all kinds that have their form, always the same ones.
func somePlays() []api.Play {
	random := rand.New(rand.NewSource(7))
	var moves [4][]api.Move
	for from := range moves {
		moves[from] = movesFrom(from)
	}
	var plays []api.Play
	for range 3000 {
		p := api.Play{Late: random.Intn(2) == 0}
		for range random.Intn(5) {
			p.Pitches += string("BCSF"[random.Intn(4)])
		}
		p.Pitches += []string{"", "X", "H"}[random.Intn(3)]
		p.Event = []string{"", "K", "W", "H", "I", "X", "N", "Y"}[random.Intn(8)]
		for from := 3; from >= 0; from-- {
			if random.Intn(2) == 0 {
				p.Moves = append(p.Moves, moves[from][random.Intn(len(moves[from]))])
			}
		}
		plays = append(plays, p)
	}
	return plays
}

func TestPlaysAreParsedAsPrinted(t *testing.T) {
	for _, p := range somePlays() {
		s, e := play.Print(p)
		want(t, fmt.Sprint("the error of ", p), e, api.OK)
		back, _, e := play.Parse(s)
		want(t, "the error of "+s, e, api.OK)
		again, _ := play.Print(back)
		want(t, "printed again", again, s)
		same := len(p.Moves) == 0 && len(back.Moves) == 0
		if !same {
			want(t, "parsed "+s, back, p)
		}
	}
}

func TestTextsAreParsedAsPrinted(t *testing.T) {
	plays := somePlays()[:api.MaxPlays]
	text, e := play.PrintAll(plays)
	want(t, "the error of the text", e, api.OK)
	back, _, e := play.ParseAll(text)
	want(t, "the error of the plays", e, api.OK)
	again, _ := play.PrintAll(back)
	want(t, "the text", again, text)
}

func TestCanonicalFormOfCanonicalForm(t *testing.T) {
	for i, p := range somePlays() {
		c, e := play.Canonical(p)
		want(t, fmt.Sprint("the error of ", p), e, api.OK)
		again, _ := play.Canonical(c)
		want(t, fmt.Sprint("the form of the form of ", p), again, c)
		order, _ := play.Draw(i+1, len(p.Moves))
		other := api.Play{Pitches: p.Pitches, Event: p.Event, Late: p.Late}
		for _, at := range order {
			other.Moves = append(other.Moves, p.Moves[at])
		}
		d, _ := play.Canonical(other)
		want(t, fmt.Sprint("the form in another order of ", p), d, c)
		is, _ := play.Equal(p, other)
		want(t, fmt.Sprint("Equal in another order to ", p), is, true)
	}
}

func TestPitchesInTwoParts(t *testing.T) {
	for _, s := range []string{"BFFS", "BBBB", "CFFFX", "BCBCBH", "FFFFFF", "CSC", "BCBCBB"} {
		whole, _, _ := play.Count(0, 0, s)
		for i := range s {
			part, _, _ := play.Count(0, 0, s[:i])
			sum, _, e := play.Count(part[0], part[1], s[i:])
			want(t, fmt.Sprint(s, " in parts at ", i), sum, whole)
			want(t, "its error", e, api.OK)
		}
	}
}

func TestEachOutHasOnePutout(t *testing.T) {
	for _, p := range somePlays() {
		outs, _ := play.Outs(p)
		putouts, _ := play.Putouts(p)
		want(t, fmt.Sprint("the putouts of ", p), len(putouts), outs)
		touches, _ := play.Touches(p)
		for _, fielder := range putouts {
			want(t, "a putout of one who touched the ball", touches[fielder-1] > 0, true)
		}
	}
}

func TestRatiosAreOrdered(t *testing.T) {
	var list []api.Ratio
	for num := -6; num <= 6; num++ {
		for den := 1; den <= 6; den++ {
			r, _ := play.Rate(num, den)
			want(t, fmt.Sprint("CheckRatio ", r), play.CheckRatio(r), api.OK)
			list = append(list, r)
		}
	}
	for _, a := range list {
		for _, b := range list {
			ab, _ := play.Compare(a, b)
			ba, _ := play.Compare(b, a)
			want(t, fmt.Sprint("both orders of ", a, b), ab, -ba)
			want(t, fmt.Sprint("equal only if the same: ", a, b), ab == 0, a == b)
			for _, c := range list {
				bc, _ := play.Compare(b, c)
				ac, _ := play.Compare(a, c)
				if ab <= 0 && bc <= 0 {
					want(t, fmt.Sprint("from one to the next: ", a, b, c), ac <= 0, true)
				}
			}
		}
	}
}
