// Package number: the numbers that stand in texts.
package number

import (
	"strings"

	"stride/api"
)

// Read tells the number that a text is, and whether it is one.
func Read(text string) (int64, bool) {
	digits, negative := strings.CutPrefix(text, "-")
	if digits == "0" {
		return 0, !negative
	}
	size, ok := readSize(digits)
	if !ok {
		return 0, false
	}
	if negative {
		return -size, true
	}
	return size, true
}

// readSize reads digits of which the first is not 0.
func readSize(digits string) (int64, bool) {
	if digits == "" || digits[0] == '0' {
		return 0, false
	}
	size := int64(0)
	for _, digit := range digits {
		if digit < '0' || digit > '9' {
			return 0, false
		}
		size = size*10 + int64(digit-'0')
		// Asked at each digit, so that no text is long enough to wrap round.
		if size > api.MaxNumber {
			return 0, false
		}
	}
	return size, true
}
