// Package frac reckons with exact parts of amounts, in hundredths of a hundredth of the least coin, and rounds them.
package frac

import (
	"cmp"
	"math/bits"

	"stipend/api"
	"stipend/money"
)

// The limits.
const (
	Full = 10_000           // the whole, as a rate, and how many parts the least coin has
	Most = money.Max * Full // the greatest exact amount, and the least one without its sign
)

const widest = 1 << 20 // the greatest side of a fraction by which is scaled: money.Max times it doesn't wrap round

// Exact is an amount in parts of which the least coin has Full.
type Exact int64

// Mode: is a way of rounding one that there is?
func Mode(mode int) bool { return mode >= api.Down && mode <= api.HalfDown }

// Rate: may a rate be?
func Rate(rate int) bool { return rate >= 0 && rate <= Full }

// Round: the quotient of two numbers, rounded.
func Round(n, d int64, mode int) (int64, api.Errno) {
	if d <= 0 || !Mode(mode) {
		return 0, api.ErrRange
	}
	lower, rest := split(n, d)
	if rest > 0 && rises(lower, rest, d, mode) {
		lower++
	}
	return lower, api.OK
}

// split: the greatest whole number that isn't above n divided by d, and how many d-ths are left; d is above 0.
func split(n, d int64) (int64, int64) {
	lower, rest := n/d, n%d
	if rest < 0 { // the language's division goes towards 0
		lower, rest = lower-1, rest+d
	}
	return lower, rest
}

// rises: is a number, which is rest d-ths above its lower neighbour, rounded to the upper one?
func rises(lower, rest, d int64, mode int) bool {
	switch mode {
	case api.Down:
		return false
	case api.Up:
		return true
	case api.Inward:
		return lower < 0
	}
	if upto := d - rest; rest != upto { // twice the rest could wrap round
		return rest > upto
	}
	switch mode {
	case api.HalfUp:
		return lower >= 0
	case api.HalfEven:
		return lower%2 != 0
	}
	return lower < 0
}

// Of: an amount, exactly.
func Of(x int64) (Exact, api.Errno) {
	if !money.Right(x) {
		return 0, api.ErrOverflow
	}
	return Exact(x * Full), api.OK
}

// Right: may an exact amount be?
func Right(x Exact) bool { return x >= -Most && x <= Most }

// Part: the part of an amount that a rate tells, exactly.
func Part(x int64, rate int) (Exact, api.Errno) {
	if !money.Right(x) {
		return 0, api.ErrOverflow
	}
	if !Rate(rate) {
		return 0, api.ErrRate
	}
	return Exact(x * int64(rate)), api.OK
}

// Add: exact amounts together.
func Add(list ...Exact) (Exact, api.Errno) {
	sum := Exact(0)
	for _, x := range list {
		if !Right(x) || !Right(sum+x) {
			return 0, api.ErrOverflow
		}
		sum += x
	}
	return sum, api.OK
}

// Coins: an exact amount in least coins, rounded.
func Coins(x Exact, mode int) (int64, api.Errno) {
	if !Right(x) {
		return 0, api.ErrOverflow
	}
	return Round(int64(x), Full, mode)
}

// Take: the part of an amount that a rate tells, in least coins, rounded.
func Take(x int64, rate, mode int) (int64, api.Errno) {
	part, e := Part(x, rate)
	if e != api.OK {
		return 0, e
	}
	return Coins(part, mode)
}

// Scale: an amount times a fraction of which neither side is below 0, without what is behind the point.
func Scale(x, n, d int64) (int64, api.Errno) {
	if !money.Right(x) {
		return 0, api.ErrOverflow
	}
	if n < 0 || n > widest || d < 1 || d > widest {
		return 0, api.ErrRange
	}
	scaled, _ := split(x*n, d)
	if !money.Right(scaled) {
		return 0, api.ErrOverflow
	}
	return scaled, api.OK
}

// Compare: which of two fractions is less, whatever they are: below 0, if it is the first one; their lower sides are above 0.
func Compare(n, d, m, c int64) (int, api.Errno) {
	if d <= 0 || c <= 0 {
		return 0, api.ErrRange
	}
	if n < 0 && m >= 0 {
		return -1, api.OK
	}
	if n >= 0 && m < 0 {
		return 1, api.OK
	}
	farther := products(money.Abs(n), uint64(c), money.Abs(m), uint64(d))
	if n < 0 { // of two below 0 the one that is farther from it is less
		farther = -farther
	}
	return farther, api.OK
}

// products: is a times b less than p times q (-1), the same (0), or more (1)?
func products(a, b, p, q uint64) int {
	// A product of two numbers may need twice their bits.
	high, low := bits.Mul64(a, b)
	upper, lower := bits.Mul64(p, q)
	if high != upper {
		return cmp.Compare(high, upper)
	}
	return cmp.Compare(low, lower)
}

// Lowest: a fraction in its lowest terms.
func Lowest(n, d int64) (int64, int64, api.Errno) {
	if d <= 0 {
		return 0, 0, api.ErrRange
	}
	// What divides d is no more than it, so it is an int64 again.
	both := int64(divisor(money.Abs(n), uint64(d)))
	return n / both, d / both, api.OK
}

// divisor: the greatest number that divides both; b isn't 0.
func divisor(a, b uint64) uint64 {
	for a != 0 {
		a, b = b%a, a
	}
	return b
}
