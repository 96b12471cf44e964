package earned_test

import (
	"slices"
	"testing"

	"dugout/api"
	"dugout/earned"
)

func TestEarnedRuns(t *testing.T) {
	out := func(at, runner int) earned.Out { return earned.Out{Play: at, Runner: runner, Fact: true} }
	misplayed := func(at, runner int) earned.Out { return earned.Out{Play: at, Runner: runner} }
	is := func(runner, at int) earned.Certificate {
		return earned.Certificate{Runner: runner, Earned: true, Play: at}
	}
	isNot := func(runner, at int, outs ...earned.Out) earned.Certificate {
		return earned.Certificate{Runner: runner, Play: at, Outs: outs}
	}
	for _, row := range []struct {
		what         string
		plays        string
		judgments    string
		from         int
		earned       []int
		unearned     []int
		certificates []earned.Certificate // of all runs
	}{
		{"no plays", "", "", 0, nil, nil, nil},
		{"no runs", one + gone, "", 0, nil, nil, nil},
		{"a home run", homer, "", 0, []int{1}, nil, []earned.Certificate{is(1, 0)}},
		{"who does not take part", homer + one, "", 1, nil, nil, []earned.Certificate{isNot(1, -1)}},
		{"behind all plays", homer + homer, "", 2, nil, nil, []earned.Certificate{isNot(1, -1), isNot(2, -1)}},
		{"who is there before it", one + pair, "", 1, []int{1, 2}, nil, []earned.Certificate{is(1, 1), is(2, 1)}},
		{"an out instead of a run", "X X 0-4b:8;" + homer, "0 0 life 0 8", 0, []int{2}, []int{1}, []earned.Certificate{isNot(1, -1, misplayed(0, 1)), is(2, 1)}},
		{"an error instead of a run", "X X 0-4b:8;B -", "0 0 error 2 8", 0, nil, []int{1}, []earned.Certificate{isNot(1, -1)}},
		{"a later play", three + "B - 3-4p:2;" + gone + homer, "1 3 passed 0 0", 0, []int{1, 3}, nil, []earned.Certificate{is(1, 3), is(3, 3)}},
		{"outs of no effect", gone + three + "B - 3-4p:2;" + gone, "2 3 passed 0 0", 0, nil, []int{2}, []earned.Certificate{isNot(2, -1, out(0, 1), out(3, 3))}},
		{"with the third out", gone + gone + three + "X X 3-4b 0-1b:6", "3 0 life 0 6", 0, nil, []int{3}, []earned.Certificate{isNot(3, 3, out(0, 1), out(1, 2), misplayed(3, 4))}},
		{"with the third out in fact", gone + gone + two + "X X 2-4b 0x2g:84", "", 0, []int{3}, nil, []earned.Certificate{is(3, 3)}},
		{"behind the end", gone + gone + one + pair + homer, "2 0 life 0 6", 0, nil, []int{3, 4, 5}, []earned.Certificate{isNot(3, 2, out(0, 1), out(1, 2), misplayed(2, 3)), isNot(4, 2, out(0, 1), out(1, 2), misplayed(2, 3)), isNot(5, 2, out(0, 1), out(1, 2), misplayed(2, 3))}},
		{"behind the end of a part", gone + gone + one + pair + homer, "2 0 life 0 6", 2, nil, []int{3, 4, 5}, []earned.Certificate{isNot(3, 2, misplayed(2, 3)), isNot(4, 2, misplayed(2, 3)), isNot(5, 2, misplayed(2, 3))}},
		{"from the play behind the misplay", gone + gone + one + pair + homer, "2 0 life 0 6", 3, []int{3, 4, 5}, nil, []earned.Certificate{is(3, 3), is(4, 3), is(5, 4)}},
		{"from a play behind a run", gone + gone + one + pair + homer, "2 0 life 0 6", 4, []int{5}, nil, []earned.Certificate{isNot(3, -1), isNot(4, -1), is(5, 4)}},
		{"who is pushed home", loaded + allGo + "BBB W 0-1a", "3 3 passed 0 0", 0, []int{1}, nil, []earned.Certificate{is(1, 4)}},
		{"a run that does not count", gone + gone + three + "X X 3-4b 0x1f:63", "", 0, nil, nil, nil},
	} {
		h := inning(t, row.plays, row.judgments)
		l, e := earned.Earned(h, row.from)
		want(t, "the error of Earned: "+row.what, e, api.OK)
		want(t, "Earned: "+row.what, l, row.earned)
		l, e = earned.Unearned(h, row.from)
		want(t, "the error of Unearned: "+row.what, e, api.OK)
		want(t, "Unearned: "+row.what, l, row.unearned)
		for _, wanted := range row.certificates {
			c, e := earned.Certify(h, row.from, wanted.Runner)
			want(t, "the error of Certify: "+row.what, e, api.OK)
			isSame := c.Runner == wanted.Runner && c.Earned == wanted.Earned && c.Play == wanted.Play && slices.Equal(c.Outs, wanted.Outs)
			if !isSame {
				t.Errorf("Certify: %s: got %v, want %v", row.what, c, wanted)
			}
			want(t, "CheckCertificate: "+row.what, earned.CheckCertificate(h, row.from, c), api.OK)
		}
	}
}

func TestRunsWrong(t *testing.T) {
	h := example(t)
	for _, from := range []int{-1, 6, 1 << 62, -1 << 62} {
		l, e := earned.Earned(h, from)
		want(t, "Earned", []any{len(l), e}, []any{0, api.ErrRange})
		l, e = earned.Unearned(h, from)
		want(t, "Unearned", []any{len(l), e}, []any{0, api.ErrRange})
		for _, runner := range []int{0, 1, 2} {
			c, e := earned.Certify(h, from, runner)
			want(t, "Certify", []any{c.Runner, len(c.Outs), e}, []any{0, 0, api.ErrRange})
			want(t, "CheckCertificate", earned.CheckCertificate(h, from, earned.Certificate{Runner: runner}), api.ErrRange)
		}
	}
	for _, from := range []int{0, 5} {
		for runner, err := range map[int]api.Errno{-1: api.ErrUnknown, 0: api.ErrUnknown, 1: api.ErrNone, 4: api.ErrNone, 5: api.ErrNone, 6: api.ErrUnknown, 1 << 62: api.ErrUnknown, -1 << 62: api.ErrUnknown} {
			c, e := earned.Certify(h, from, runner)
			want(t, "Certify", []any{c.Runner, c.Earned, c.Play, len(c.Outs), e}, []any{0, false, 0, 0, err})
			want(t, "CheckCertificate", earned.CheckCertificate(h, from, earned.Certificate{Runner: runner, Play: -1}), err)
		}
	}
	_, e := earned.Certify(inning(t, homer+"B -", ""), 0, 2)
	want(t, "Certify: a turn that goes on", e, api.ErrUnknown)
}

func TestCertificatesThatProveNothing(t *testing.T) {
	h := inning(t, gone+gone+one+pair, "2 0 life 0 6")
	outs := func() []earned.Out { return []earned.Out{{0, 1, true}, {1, 2, true}, {2, 3, false}} }
	right := earned.Certificate{Runner: 4, Play: 2, Outs: outs()}
	want(t, "the certificate", earned.CheckCertificate(h, 0, right), api.OK)
	for what, change := range map[string]func(*earned.Certificate){
		"earned":                func(c *earned.Certificate) { c.Earned = true },
		"another play":          func(c *earned.Certificate) { c.Play = 3 },
		"no play":               func(c *earned.Certificate) { c.Play = -1 },
		"an out less":           func(c *earned.Certificate) { c.Outs = c.Outs[:2] },
		"an out more":           func(c *earned.Certificate) { c.Outs = append(c.Outs, earned.Out{Play: 3, Runner: 3}) },
		"no outs":               func(c *earned.Certificate) { c.Outs = nil },
		"an out that is a fact": func(c *earned.Certificate) { c.Outs[2].Fact = true },
		"an out of another":     func(c *earned.Certificate) { c.Outs[2].Runner = 4 },
		"an out of a later play": func(c *earned.Certificate) {
			c.Outs[2].Play = 3
		},
		"another order": func(c *earned.Certificate) { c.Outs[0], c.Outs[1] = c.Outs[1], c.Outs[0] },
	} {
		c := right
		c.Outs = outs()
		change(&c)
		want(t, "CheckCertificate: "+what, earned.CheckCertificate(h, 0, c), api.ErrProof)
	}
	other := right
	other.Runner = 3
	want(t, "CheckCertificate of the other run", earned.CheckCertificate(h, 0, other), api.OK)
	want(t, "CheckCertificate from another play", earned.CheckCertificate(h, 3, right), api.ErrProof)
	from3 := earned.Certificate{Runner: 4, Earned: true, Play: 3}
	want(t, "CheckCertificate of an earned run", earned.CheckCertificate(h, 3, from3), api.OK)
	want(t, "CheckCertificate of another play", earned.CheckCertificate(h, 0, from3), api.ErrProof)
	from3.Outs = outs()
	want(t, "CheckCertificate of an earned run with outs", earned.CheckCertificate(h, 3, from3), api.ErrProof)
	from3.Outs, from3.Earned = []earned.Out{}, false
	want(t, "CheckCertificate of a run that is not earned", earned.CheckCertificate(h, 3, from3), api.ErrProof)
	absent := earned.Certificate{Runner: 4, Play: -1, Outs: []earned.Out{}}
	want(t, "CheckCertificate of one who does not take part", earned.CheckCertificate(h, 4, absent), api.OK)
}
