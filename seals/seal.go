// Package seals: texts that tell whether they are whole.
package seals

import (
	"strings"

	"stride/little"
)

// headLength: of the payload's length and its sum, in front of the payload.
const headLength = 8

// Sum works out the sum of all bytes of a text.
func Sum(bytes string) uint32 {
	sum := ^uint32(0)
	for i := range len(bytes) {
		sum ^= uint32(bytes[i])
		for range 8 {
			fallen := sum & 1
			sum >>= 1
			if fallen == 1 {
				sum ^= 3988292384
			}
		}
	}
	return ^sum
}

// Seal puts a payload's length and sum in front of it.
func Seal(payload string) string { return head(payload) + payload }

// Open tells the payload of a sealed text, and whether it is one.
func Open(sealed string) (string, bool) {
	if len(sealed) < headLength {
		return "", false
	}
	payload := sealed[headLength:]
	if sealed[:headLength] != head(payload) {
		return "", false
	}
	// A clone, since a piece would keep all of what was handed in.
	return strings.Clone(payload), true
}

func head(payload string) string {
	var w little.Writer
	w.Put(uint64(len(payload)), 4)
	w.Put(uint64(Sum(payload)), 4)
	return w.Text()
}
