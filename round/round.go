// Package round is layer 1: see shared/doc/01-round.md. It divides integers with stated rounding, takes roots, and divides a whole into shares.
package round

import (
	"cmp"
	"slices"
	"sort"

	"batchline/api"
)

const (
	maxDividend = 1 << 61 // its double, and a divisor added to that, still fit into an int
	maxDivisor  = 1 << 40
	maxRoot     = 1 << 31 // its square still fits into an int
	maxSquare   = maxRoot * maxRoot
	maxWeight   = 1 << 20 // its product with MaxVolume still fits into an int
)

// Down returns a / b, rounded down; 0 if a or b is out of range.
func Down(a, b int) int {
	if !divides(a, b) {
		return 0
	}
	return floor(a, b)
}

// Up returns a / b, rounded up; 0 if a or b is out of range.
func Up(a, b int) int {
	if !divides(a, b) {
		return 0
	}
	return -floor(-a, b)
}

// Half returns a / b, rounded half up; 0 if a or b is out of range.
func Half(a, b int) int {
	if !divides(a, b) {
		return 0
	}
	return floor(2*a+b, 2*b)
}

// divides reports whether a can be divided by b.
func divides(a, b int) bool {
	return -maxDividend <= a && a <= maxDividend && 1 <= b && b <= maxDivisor
}

// floor returns a / b, rounded down, for a positive b.
func floor(a, b int) int {
	q := a / b
	// Go's division rounds to 0, which is up for a negative quotient.
	if a%b < 0 {
		q--
	}
	return q
}

// Root returns the square root of n, rounded down; 0 if n is out of range.
func Root(n int) int {
	if !hasRoot(n) {
		return 0
	}
	return sort.Search(maxRoot, func(r int) bool { return (r+1)*(r+1) > n })
}

// RootUp returns the square root of n, rounded up; 0 if n is out of range.
func RootUp(n int) int {
	if !hasRoot(n) {
		return 0
	}
	return sort.Search(maxRoot, func(r int) bool { return r*r >= n })
}

// hasRoot reports whether the root of n can be taken.
func hasRoot(n int) bool {
	return 0 <= n && n <= maxSquare
}

// Shares divides total among weights; litres that are left over go one by one to the greatest remainders, of equal ones to the first.
func Shares(total int, weights []int) ([]int, api.Errno) {
	sum, e := sumOfWeights(total, weights)
	if e != api.OK {
		return nil, e
	}
	shares := make([]int, len(weights))
	remainders := make([]int, len(weights))
	left := total
	for i, w := range weights {
		shares[i] = total * w / sum
		remainders[i] = total * w % sum
		left -= shares[i]
	}
	// left is at most the number of remainders that are not 0, so that a weight of 0 never gets a litre.
	for _, i := range greatestFirst(remainders)[:left] {
		shares[i]++
	}
	return shares, api.OK
}

// sumOfWeights returns the sum of the weights among which total is divided, or the error of the arguments.
func sumOfWeights(total int, weights []int) (int, api.Errno) {
	if len(weights) > api.MaxWeights {
		return 0, api.ErrLimit
	}
	if total < 0 || total > api.MaxVolume {
		return 0, api.ErrRange
	}
	sum := 0
	for _, w := range weights {
		if w < 0 || w > maxWeight {
			return 0, api.ErrRange
		}
		sum += w
	}
	if sum == 0 {
		return 0, api.ErrInvalid
	}
	return sum, api.OK
}

// greatestFirst returns the indices of numbers, those of the greatest numbers first, of equal ones the lesser index.
func greatestFirst(numbers []int) []int {
	order := make([]int, len(numbers))
	for i := range order {
		order[i] = i
	}
	slices.SortStableFunc(order, func(i, j int) int {
		return cmp.Compare(numbers[j], numbers[i])
	})
	return order
}
