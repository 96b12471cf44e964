package play

import (
	"cmp"

	"dugout/api"
)

// Rate returns a quotient in lowest terms.
func Rate(num, den int) (api.Ratio, api.Errno) {
	if !within(num, -api.MaxNumber, api.MaxNumber) || !within(den, -api.MaxNumber, api.MaxNumber) {
		return api.Ratio{}, api.ErrRange
	}
	if den == 0 {
		return api.Ratio{}, api.ErrZero
	}
	return lowest(num, den), api.OK
}

// CheckRatio returns the first error of a ratio, or OK.
func CheckRatio(r api.Ratio) api.Errno {
	if !within(r.Num, -api.MaxNumber, api.MaxNumber) || !within(r.Den, 1, api.MaxNumber) {
		return api.ErrRange
	}
	if r != lowest(r.Num, r.Den) {
		return api.ErrForm
	}
	return api.OK
}

// Compare returns -1, 0 or 1 if the first ratio is less than, equal to, or greater than the second one.
func Compare(a, b api.Ratio) (int, api.Errno) {
	if e := first(CheckRatio(a), CheckRatio(b)); e != api.OK {
		return 0, e
	}
	return cmp.Compare(int64(a.Num)*int64(b.Den), int64(b.Num)*int64(a.Den)), api.OK
}

// lowest returns a quotient in lowest terms; den is not 0.
func lowest(num, den int) api.Ratio {
	divisor := commonDivisor(num, den)
	// A remainder has the sign of the dividend, so the divisor may be negative.
	if (divisor < 0) != (den < 0) {
		divisor = -divisor
	}
	return api.Ratio{Num: num / divisor, Den: den / divisor}
}

// commonDivisor returns a greatest common divisor, up to its sign.
func commonDivisor(a, b int) int {
	for b != 0 {
		a, b = b, a%b
	}
	return a
}
