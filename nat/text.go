package nat

import (
	"slices"

	"windbreak/api"
)

// Digits are taken in groups, as many as surely go into one limb.
const (
	groupDigits = 19
	groupSize   = 10_000_000_000_000_000_000 // 10 to the power of groupDigits
)

// mostDigits is how many a text may have.
const mostDigits = 1240

// Text is a number in base ten.
func Text(a api.Nat) string {
	if !Right(a) {
		return ""
	}
	if len(a) == 0 {
		return "0"
	}
	left := slices.Clone(a)
	var digits []byte
	for len(left) > 0 {
		group := divideBy(left, groupSize)
		left = trimmed(left)
		for range groupDigits {
			digits = append(digits, '0'+byte(group%10))
			group /= 10
		}
	}
	// The last group is filled up with 0, which are not told.
	for digits[len(digits)-1] == '0' {
		digits = digits[:len(digits)-1]
	}
	slices.Reverse(digits)
	return string(digits)
}

// Parse is the number of a text in base ten.
func Parse(s string) (api.Nat, api.Errno) {
	if !isText(s) {
		return nil, api.ErrNatForm
	}
	a := make(api.Nat, (len(s)+groupDigits-1)/groupDigits)
	for len(s) > 0 {
		// The first group is the short one, so that each one behind it is whole.
		size := (len(s)-1)%groupDigits + 1
		timesPlus(a, groupSize, groupValue(s[:size]))
		s = s[size:]
	}
	return fitted(a)
}

// isText tells whether a text has the form in which numbers are told.
func isText(s string) bool {
	if len(s) == 0 || len(s) > mostDigits {
		return false
	}
	for i := range len(s) {
		if s[i] < '0' || s[i] > '9' {
			return false
		}
	}
	return s[0] != '0' || len(s) == 1
}

// groupValue is the number of a group of digits.
func groupValue(s string) uint64 {
	var n uint64
	for i := range len(s) {
		n = n*10 + uint64(s[i]-'0')
	}
	return n
}
