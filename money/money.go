// Package money reckons with amounts of money, in the least coin: none is beyond the most.
package money

import (
	"cmp"
	"slices"
	"strconv"
	"strings"

	"stipend/api"
)

// The limits.
const (
	Max  = 100_000_000_000 // the greatest amount, and the least one without its sign
	Coin = 100             // least coins that are one
	Most = 64              // parts into which an amount is spread
)

const (
	longest  = 20      // bytes of an amount's text, without its sign
	heaviest = 1 << 20 // the greatest weight: Max times it doesn't wrap round
)

// Right: may an amount be?
func Right(list ...int64) bool {
	for _, x := range list {
		if x < -Max || x > Max {
			return false
		}
	}
	return true
}

// may: an amount, if it may be.
func may(x int64) (int64, api.Errno) {
	if !Right(x) {
		return 0, api.ErrOverflow
	}
	return x, api.OK
}

// Add: two amounts together.
func Add(a, b int64) (int64, api.Errno) {
	if !Right(a, b) {
		return 0, api.ErrOverflow
	}
	return may(a + b)
}

// Sub: an amount less another one.
func Sub(a, b int64) (int64, api.Errno) {
	if !Right(a, b) {
		return 0, api.ErrOverflow
	}
	return may(a - b)
}

// Sum: amounts together, one by one from the first on: each sum may be.
func Sum(list ...int64) (int64, api.Errno) {
	sum, e := int64(0), api.OK
	for _, x := range list {
		if sum, e = Add(sum, x); e != api.OK {
			return 0, e
		}
	}
	return sum, api.OK
}

// Abs: an amount without its sign.
func Abs(x int64) uint64 {
	if x < 0 {
		// The least number of all has no int64 without its sign, so the sign changes behind the conversion.
		return -uint64(x)
	}
	return uint64(x)
}

// Times: an amount so many times.
func Times(x, n int64) (int64, api.Errno) {
	if !Right(x) {
		return 0, api.ErrOverflow
	}
	// The product itself could wrap round to one that may be, so the limit is divided instead.
	if x != 0 && Abs(n) > Max/Abs(x) {
		return 0, api.ErrOverflow
	}
	return x * n, api.OK
}

// Text: an amount as it is written.
func Text(x int64) string {
	sign := ""
	if x < 0 {
		sign = "-"
	}
	coins, least := Abs(x)/Coin, Abs(x)%Coin
	tail := []byte{'0' + byte(least/10), '0' + byte(least%10)}
	return sign + strconv.FormatUint(coins, 10) + "." + string(tail)
}

// Parse: the amount of a text: whole ones, or with two digits behind a point.
func Parse(s string) (int64, api.Errno) {
	text, negative := strings.CutPrefix(s, "-")
	coins, least, pointed := strings.Cut(text, ".")
	if len(text) > longest || !whole(coins) || pointed && !cents(least) {
		return 0, api.ErrForm
	}
	x := number(coins)
	if Right(x) { // else Coin of them each could wrap round
		x = x*Coin + number(least)
	}
	if negative && x == 0 {
		return 0, api.ErrForm
	}
	if negative {
		x = -x
	}
	return may(x)
}

// whole: is it digits, one at least, and a 0 ahead of no other one?
func whole(s string) bool {
	if s == "" || len(s) > 1 && s[0] == '0' {
		return false
	}
	return digits(s)
}

// cents: is it two digits?
func cents(s string) bool { return len(s) == 2 && digits(s) }

// digits: is it nothing but digits?
func digits(s string) bool {
	for i := range len(s) {
		if s[i] < '0' || s[i] > '9' {
			return false
		}
	}
	return true
}

// number: the number that digits write; if that is beyond the most, some number that is.
func number(s string) int64 {
	x := int64(0)
	for i := range len(s) {
		if x > Max { // it only grows, and more digits could wrap it round
			return x
		}
		x = x*10 + int64(s[i]-'0')
	}
	return x
}

// Spread: an amount in parts by weights: each the part that is its own, without what is behind the point; what is left goes, a least coin each, to those of which most was left out, of these to the first ones.
func Spread(x int64, weights ...int64) ([]int64, api.Errno) {
	if !Right(x) {
		return nil, api.ErrOverflow
	}
	all, e := weigh(weights)
	if e != api.OK {
		return nil, e
	}
	sign := int64(1)
	if x < 0 {
		sign = -1
	}
	left := x * sign
	parts := make([]int64, len(weights))
	rests := make([]int64, len(weights))
	for i, w := range weights {
		own := x * sign * w
		parts[i], rests[i] = own/all, own%all
		left -= parts[i]
	}
	// All rests are below the weights' sum, so fewer least coins are left than there are parts.
	for _, i := range neediest(rests)[:left] {
		parts[i]++
	}
	for i := range parts {
		parts[i] *= sign
	}
	return parts, api.OK
}

// weigh: all weights together, if they may be.
func weigh(weights []int64) (int64, api.Errno) {
	if len(weights) == 0 || len(weights) > Most {
		return 0, api.ErrLong
	}
	all := int64(0)
	for _, w := range weights {
		if w < 0 || w > heaviest {
			return 0, api.ErrRange
		}
		all += w
	}
	if all == 0 {
		return 0, api.ErrRange
	}
	return all, api.OK
}

// neediest: the numbers of rests, those of the greatest ones first, alike ones in their order.
func neediest(rests []int64) []int {
	order := make([]int, len(rests))
	for i := range order {
		order[i] = i
	}
	slices.SortStableFunc(order, func(a, b int) int { return cmp.Compare(rests[b], rests[a]) })
	return order
}

// Least, Greatest: of two amounts.
func Least(a, b int64) int64 { return min(a, b) }

func Greatest(a, b int64) int64 { return max(a, b) }

// Quantum: an amount to a multiple of another one: the nearest that isn't above it, or isn't below it.
func Quantum(x, unit int64, up bool) (int64, api.Errno) {
	if !Right(x, unit) {
		return 0, api.ErrOverflow
	}
	if unit <= 0 {
		return 0, api.ErrRange
	}
	over := x % unit
	if over < 0 { // a remainder has the sign of what is divided
		over += unit
	}
	if over > 0 && up {
		over -= unit
	}
	return may(x - over)
}

// Parts: an amount in parts of no more than another one each: all of that, and what is left as the last one.
func Parts(x, each int64) ([]int64, api.Errno) {
	if !Right(x, each) {
		return nil, api.ErrOverflow
	}
	if x < 0 || each <= 0 {
		return nil, api.ErrRange
	}
	if x > Most*each {
		return nil, api.ErrLong
	}
	var parts []int64
	for left := x; left > 0; left -= each {
		parts = append(parts, min(left, each))
	}
	return parts, api.OK
}
