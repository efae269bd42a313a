// Package ident is layer 1: see shared/doc/01-ident.md.
package ident

import "annulet/api"

// digits is how many of them Print tells: two to a byte.
const digits = 2 * api.Size

const digitSigns = "0123456789abcdef"

// Compare orders identities as numbers.
func Compare(a, b api.ID) int {
	for i, x := range a {
		if x < b[i] {
			return -1
		}
		if x > b[i] {
			return 1
		}
	}
	return 0
}

// Sub is how far it is clockwise from b to a.
func Sub(a, b api.ID) api.ID {
	var diff api.ID
	borrow := 0
	for i := api.Size - 1; i >= 0; i-- {
		n := int(a[i]) - int(b[i]) - borrow
		diff[i] = byte(n)
		borrow = 0
		if n < 0 {
			borrow = 1
		}
	}
	// What is borrowed beyond the highest byte is let go: the ring closes there.
	return diff
}

// Far is how far two identities are apart, the shorter way.
func Far(a, b api.ID) api.ID {
	there, back := Sub(a, b), Sub(b, a)
	if Compare(back, there) < 0 {
		return back
	}
	return there
}

// Nearer tells whether a is nearer to d than b is.
func Nearer(d, a, b api.ID) bool {
	farA, farB := Far(a, d), Far(b, d)
	if farA == farB {
		return Compare(Sub(a, d), Sub(b, d)) < 0
	}
	return Compare(farA, farB) < 0
}

// Nearest is the place of the one that is nearest to d, -1 if there is none.
func Nearest(d api.ID, l ...api.ID) int {
	best := -1
	for i, x := range l {
		if best < 0 || Nearer(d, x, l[best]) {
			best = i
		}
	}
	return best
}

// Between tells whether x is met on the way clockwise from a to b, ends apart.
func Between(a, x, b api.ID) bool {
	if x == a {
		return false
	}
	// From a to a is once all around, though Sub says 0.
	return a == b || Compare(Sub(x, a), Sub(b, a)) < 0
}

// Print tells an identity in 32 digits.
func Print(a api.ID) string {
	var out [digits]byte
	for i, x := range a {
		out[2*i] = digitSigns[x>>4]
		out[2*i+1] = digitSigns[x&15]
	}
	return string(out[:])
}

// Parse reads what Print tells.
func Parse(s string) (api.ID, api.Errno) {
	var a api.ID
	// A digit is one byte, so while all went well i counts the digits ahead of r.
	for i, r := range s {
		d, ok := digit(r)
		if !ok {
			return api.ID{}, api.ErrForm
		}
		if i == digits {
			return api.ID{}, api.ErrLong
		}
		a[i/2] = a[i/2]<<4 | d
	}
	if len(s) < digits {
		return api.ID{}, api.ErrShort
	}
	return a, api.OK
}

// digit is what a sign stands for, if it is a digit that Print tells.
func digit(r rune) (byte, bool) {
	switch {
	case '0' <= r && r <= '9':
		return byte(r - '0'), true
	case 'a' <= r && r <= 'f':
		return byte(r-'a') + 10, true
	}
	return 0, false
}
