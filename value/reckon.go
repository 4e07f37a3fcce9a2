package value

import (
	"math"

	"gatepost/api"
)

// Add is the sum of two numbers, or of a time and a number.
func Add(a, b api.Value) (api.Value, api.Errno) {
	switch {
	case !Formed(a) || !Formed(b):
		return api.Value{}, api.ErrArg
	case a.Kind == kindNumber && b.Kind == kindNumber:
		return newNumber(sum(a.I, b.I))
	case a.Kind == kindTime && b.Kind == kindNumber:
		return newTime(sum(a.I, b.I))
	}
	return api.Value{}, api.ErrType
}

// Sub is a less b, of two numbers, of a time and a number, or of two times.
func Sub(a, b api.Value) (api.Value, api.Errno) {
	switch {
	case !Formed(a) || !Formed(b):
		return api.Value{}, api.ErrArg
	case a.Kind == kindNumber && b.Kind == kindNumber, a.Kind == kindTime && b.Kind == kindTime:
		return newNumber(difference(a.I, b.I))
	case a.Kind == kindTime && b.Kind == kindNumber:
		return newTime(difference(a.I, b.I))
	}
	return api.Value{}, api.ErrType
}

// Mul is the product of two numbers.
func Mul(a, b api.Value) (api.Value, api.Errno) {
	switch {
	case !Formed(a) || !Formed(b):
		return api.Value{}, api.ErrArg
	case a.Kind == kindNumber && b.Kind == kindNumber:
		return newNumber(product(a.I, b.I))
	}
	return api.Value{}, api.ErrType
}

// newNumber is the number n, if it fits.
func newNumber(n int64, fits bool) (api.Value, api.Errno) {
	if !fits {
		return api.Value{}, api.ErrOver
	}
	return Number(n), api.OK
}

// newTime is the time n, if it fits, and is one.
func newTime(n int64, fits bool) (api.Value, api.Errno) {
	if !fits || !isTime(n) {
		return api.Value{}, api.ErrOver
	}
	return api.Value{Kind: kindTime, I: n}, api.OK
}

// sum is a and b together, going round, and whether it didn't.
func sum(a, b int64) (int64, bool) {
	n := a + b
	// Adding goes up just by what is above 0, unless it goes round.
	return n, (n > a) == (b > 0)
}

// difference is a less b, going round, and whether it didn't.
func difference(a, b int64) (int64, bool) {
	n := a - b
	return n, (n < a) == (b > 0)
}

// product is a times b, going round, and whether it didn't.
func product(a, b int64) (int64, bool) {
	n := a * b
	if a == 0 || b == 0 {
		return n, true
	}
	// The least number divided by -1 goes round too: the division alone wouldn't tell.
	if b == -1 {
		return n, a != math.MinInt64
	}
	return n, n/b == a
}
