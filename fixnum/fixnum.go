// Package fixnum is layer 1: see shared/doc/01-fixnum.md.
package fixnum

import "dotterel/api"

// rated is the span for which rates are told, as a tag.
const rated = api.Second * api.Unit

// shared is what a Space is a share of.
const shared = 1 << 40

// At is the tag of a tick.
func At(tick int) int { return Times(tick, api.Unit) }

// Add is the sum of two tags.
func Add(a, b int) int {
	a, b = tag(a), tag(b)
	if a > api.MaxTag-b {
		return api.MaxTag
	}
	return a + b
}

// Times is a tag, n times.
func Times(a, n int) int {
	a, n = tag(a), tag(n)
	if n == 0 {
		return 0
	}
	// A product that goes round may look like a small one, so it is told by a quotient.
	if a > api.MaxTag/n {
		return api.MaxTag
	}
	return a * n
}

// Space is the span between two operations of a rate, rounded down.
func Space(rate int) int {
	if !isRate(rate) {
		return 0
	}
	return rated / rate
}

// Wide is the span between two operations of a rate, rounded up.
func Wide(rate int) int {
	if !isRate(rate) {
		return 0
	}
	return divideUp(rated, rate)
}

// Share is how much of a server an operation in each space takes, rounded up.
func Share(space int) int {
	if space < 1 {
		return 0
	}
	return divideUp(shared, space)
}

// tag is the tag that is nearest to n.
func tag(n int) int { return min(max(n, 0), api.MaxTag) }

func isRate(rate int) bool { return rate >= 1 && rate <= api.MaxRate }

// divideUp divides n by what, both from 1 on, and rounds up. It adds behind dividing: n + what may go round.
func divideUp(n, what int) int { return (n-1)/what + 1 }
