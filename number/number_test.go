package number

import (
	"math/big"
	"regexp"
	"strconv"
	"strings"
	"testing"
)

func TestRead(t *testing.T) {
	for text, want := range map[string]int64{
		"0": 0, "1": 1, "9": 9, "10": 10, "-1": -1, "-10": -10, "999999999": 999999999,
		"1000000000": 1000000000, "-1000000000": -1000000000,
	} {
		if n, ok := Read(text); n != want || !ok {
			t.Errorf("Read(%q) = %d, %t, want %d", text, n, ok, want)
		}
	}
	for _, text := range []string{
		"", "-", "-0", "00", "01", "-01", "+1", "+0", "--1", "1-", "1 ", " 1", "1.0", "1e3", "0x1", "1_000", "٣", "1\x00", "1\xff",
		"1000000001", "-1000000001", "1234567890", "9223372036854775808", "18446744073709551617", "-18446744073709551617", strings.Repeat("9", 5000),
	} {
		if n, ok := Read(text); n != 0 || ok {
			t.Errorf("Read(%.40q) = %d, %t, want none", text, n, ok)
		}
	}
}

// reference says the document's words over again by other means.
func reference(text string) (int64, bool) {
	if !regexp.MustCompile(`^(0|-?[1-9][0-9]*)$`).MatchString(text) || strings.Contains(text, "\n") {
		return 0, false
	}
	n, _ := new(big.Int).SetString(text, 10)
	if new(big.Int).Abs(n).Cmp(big.NewInt(1000000000)) > 0 {
		return 0, false
	}
	return n.Int64(), true
}

func TestReadAgainstReference(t *testing.T) {
	var try func(text string, left int)
	try = func(text string, left int) {
		n, ok := Read(text)
		if want, wantOK := reference(text); n != want || ok != wantOK {
			t.Errorf("Read(%q) = %d, %t, want %d, %t", text, n, ok, want, wantOK)
		}
		for _, next := range "019- +" {
			if left > 0 {
				try(text+string(next), left-1)
			}
		}
	}
	try("", 4)
	for n := int64(999999990); n <= 1000000010; n++ {
		try(strconv.FormatInt(n, 10), 1)
		try(strconv.FormatInt(-n, 10), 1)
	}
}
