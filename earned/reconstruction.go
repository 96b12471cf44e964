package earned

import (
	"iter"
	"slices"

	"dugout/api"
	"dugout/judge"
	"dugout/play"
)

// scene is a play of a reconstruction.
type scene struct {
	at     int
	outs   []Out
	doubts []Extra     // by runners: who came up earlier is on a higher base, so the moves are in their order
	came   []int       // who is at home after it, and was not before
	places map[int]int // after it, of those who take part; 0 of one who is out
	isEnd  bool        // there are three outs
}

// review is a half that is gone over without misplays.
type review struct {
	half
	from   int
	cleans [][]judge.Clean // of the moves of each play from the play `from` on
}

// newReview returns a half and its clean moves from a play on.
func newReview(h Half, from int) (review, api.Errno) {
	facts, e := newHalf(h)
	if e = first(e, checkRange(from, 0, len(h.Plays))); e != api.OK {
		return review{}, e
	}
	r := review{half: facts, from: from, cleans: make([][]judge.Clean, len(h.Plays))}
	for at := from; at < len(h.Plays); at++ {
		r.cleans[at], e = judge.Cleans(h.Plays, h.Judgments, at)
		if e != api.OK {
			return review{}, e
		}
	}
	return r, api.OK
}

// story is a reconstruction as it goes on.
type story struct {
	review
	extras []Extra
	outs   int
	places map[int]int // of those who take part; 0 of one who is out
}

// scenes visits the plays of the reconstruction.
func (r review) scenes(extras []Extra) iter.Seq[scene] {
	return func(yield func(scene) bool) {
		s := story{review: r, extras: extras, outs: r.states[r.from].Outs, places: map[int]int{}}
		for i, n := range r.bases(r.from) {
			if n != 0 {
				s.places[n] = i + 1
			}
		}
	plays:
		for at := r.from; at < len(r.plays); at++ {
			next := s.next(at)
			switch {
			case !yield(next), next.isEnd:
				break plays
			}
		}
	}
}

// next goes on by a play.
func (s *story) next(at int) scene {
	next := scene{at: at, places: s.places}
	least := map[int]int{}
	for i, m := range s.plays[at].Moves {
		n, c := s.number(at, m.From), s.cleans[at][i]
		had := s.places[n]
		switch {
		case m.From > 0 && had == 0: // he does not take part, or is out already
		case c.Out:
			next.outs = append(next.outs, Out{at, n, m.Out})
			s.places[n] = 0
		case had == m.From: // the batter has no place before
			least[n] = c.To
		default:
			// He lags behind. His clean move leads beyond his place: it is not below the base on which he was in fact.
			doubt := Extra{at, n, c.To - had}
			next.doubts = append(next.doubts, doubt)
			least[n] = had + min(s.extra(at, n), doubt.Bases)
		}
	}
	next.came = s.advance(at, least)
	isAsInFact := s.outs == s.states[at].Outs && s.isOutInFact(at, next.outs)
	s.outs += len(next.outs)
	if s.outs >= allOuts {
		next.isEnd = true
		next.came = s.end(at, next.came, isAsInFact)
	}
	return next
}

// advance brings everyone to his least place, or further if the one behind him comes there. It returns who has come home.
func (s *story) advance(at int, least map[int]int) []int {
	var came []int
	behind, last := 0, s.turns[at+1]
	for i := range last {
		n := last - i
		place, moves := least[n]
		if !moves {
			place = s.places[n]
		}
		if place == 0 {
			continue
		}
		place = min(home, max(place, behind+1))
		if place == home && s.places[n] != home {
			came = append(came, n)
		}
		s.places[n], behind = place, place
	}
	return came
}

// isOutInFact reports whether some outs of a play are all outs that it has in fact.
func (s *story) isOutInFact(at int, outs []Out) bool {
	n, _ := play.Outs(s.plays[at])
	return n == len(outs) && !slices.ContainsFunc(outs, func(o Out) bool { return !o.Fact })
}

// end leaves those who came home with the third out on third base, unless their runs count in fact with just these outs. It returns who stays at home.
func (s *story) end(at int, came []int, isAsInFact bool) []int {
	var stay []int
	for _, n := range came {
		if isAsInFact && s.runners[n-1].Run == at {
			stay = append(stay, n)
		} else {
			s.places[n] = thirdBase
		}
	}
	return stay
}

// extra returns the bases of the extra of a runner in a play, 0 if he has none.
func (s *story) extra(at, n int) int {
	for _, x := range s.extras {
		if x == (Extra{at, n, x.Bases}) {
			return x.Bases
		}
	}
	return 0
}

// takesPart reports whether a runner is there at first, or comes up later, be it behind the end.
func (r review) takesPart(n int) bool {
	return r.runners[n-1].Turn >= r.from || r.isThere(n, r.from)
}

// outcome is what a reconstruction comes to.
type outcome struct {
	outs  []Out
	homes map[int]int // for each runner who comes home the play after which he is there for the first time
	third int         // the play with which it ends, or none
}

func (r review) outcome(extras []Extra) outcome {
	o := outcome{homes: map[int]int{}, third: none}
	for s := range r.scenes(extras) {
		o.outs = append(o.outs, s.outs...)
		for _, n := range s.came {
			o.homes[n] = s.at
		}
		if s.isEnd {
			o.third = s.at
		}
	}
	return o
}

func (o outcome) isHome(n int) bool {
	_, is := o.homes[n]
	return is
}

// Places returns the places of the runners in the reconstruction from a play.
func Places(h Half, from int) ([][]int, api.Errno) {
	r, e := newReview(h, from)
	if e != api.OK {
		return nil, e
	}
	var places [][]int
	for s := range r.scenes(nil) {
		places = append(places, r.row(s))
	}
	return places, api.OK
}

// row returns the places after a play of all runners so far.
func (r review) row(s scene) []int {
	row := make([]int, r.turns[s.at+1])
	for i := range row {
		place, takesPart := s.places[i+1]
		if !takesPart {
			place = none
		}
		row[i] = place
	}
	return row
}

// Outs returns the outs of the reconstruction from a play.
func Outs(h Half, from int) ([]Out, api.Errno) {
	r, e := newReview(h, from)
	if e != api.OK {
		return nil, e
	}
	return r.outcome(nil).outs, api.OK
}

// Third returns the play with which the reconstruction from a play ends.
func Third(h Half, from int) (int, api.Errno) {
	r, e := newReview(h, from)
	if e != api.OK {
		return 0, e
	}
	if third := r.outcome(nil).third; third != none {
		return third, api.OK
	}
	return 0, api.ErrNone
}
