package earned

import (
	"slices"

	"dugout/api"
)

// Earned returns the runners whose runs are earned from a play.
func Earned(h Half, from int) ([]int, api.Errno) {
	r, e := newReview(h, from)
	if e != api.OK {
		return nil, e
	}
	return r.earned(nil), api.OK
}

// Unearned returns the runners whose runs are not earned from a play.
func Unearned(h Half, from int) ([]int, api.Errno) {
	r, e := newReview(h, from)
	if e != api.OK {
		return nil, e
	}
	o := r.outcome(nil)
	return filter(r.runs(), func(n int) bool { return r.takesPart(n) && !o.isHome(n) }), api.OK
}

// Certify returns the certificate of a run.
func Certify(h Half, from, runner int) (Certificate, api.Errno) {
	r, e := newReview(h, from)
	if e = first(e, r.checkRunner(runner)); e != api.OK {
		return Certificate{}, e
	}
	return r.certificate(runner)
}

// CheckCertificate returns OK for the certificate of a run.
func CheckCertificate(h Half, from int, c Certificate) api.Errno {
	right, e := Certify(h, from, c.Runner)
	if e != api.OK {
		return e
	}
	isRight := c.Earned == right.Earned && c.Play == right.Play && slices.Equal(c.Outs, right.Outs)
	if !isRight {
		return api.ErrProof
	}
	return api.OK
}

// earned returns the runners who have runs, and are at home in the reconstruction.
func (r review) earned(extras []Extra) []int {
	return filter(r.runs(), r.outcome(extras).isHome)
}

// certificate returns the certificate of the run of a runner.
func (r review) certificate(n int) (Certificate, api.Errno) {
	if !r.hasRun(n) {
		return Certificate{}, api.ErrNone
	}
	if !r.takesPart(n) {
		return Certificate{Runner: n, Play: none}, api.OK
	}
	o := r.outcome(nil)
	if at, isHome := o.homes[n]; isHome {
		return Certificate{Runner: n, Earned: true, Play: at}, api.OK
	}
	return Certificate{Runner: n, Play: o.third, Outs: o.outs}, api.OK
}
