package stride_test

import (
	"encoding/binary"
	"hash/crc32"
	"math/rand"
	"strings"
	"testing"

	"stride/stride"
)

// sealedAs: a payload behind this length and this sum, be they its own or not.
func sealedAs(length, sum uint32, payload string) string {
	head := binary.LittleEndian.AppendUint32(nil, length)
	return string(binary.LittleEndian.AppendUint32(head, sum)) + payload
}

func rightlySealed(payload string) string {
	return sealedAs(uint32(len(payload)), crc32.ChecksumIEEE([]byte(payload)), payload)
}

func payloads() []string {
	random := rand.New(rand.NewSource(11))
	list := []string{"", "\x00", "\xff", "a", "123456789", "\x00\x00\x00\x00\x00\x00\x00\x00", "ä\n", strings.Repeat("\x00", 256), strings.Repeat("ab", 40000)}
	for length := range 300 {
		b := make([]byte, length)
		random.Read(b)
		list = append(list, string(b))
	}
	return list
}

func checkNotSealed(t *testing.T, text string) {
	t.Helper()
	if payload, ok := stride.Open(text); ok || payload != "" {
		t.Errorf("P7: Open(%.60q) = %.60q, %t", text, payload, ok)
	}
}

func TestSealExamples(t *testing.T) {
	if got, want := stride.Seal("123456789"), sealedAs(9, 3421780262, "123456789"); got != want {
		t.Errorf("P7: Seal = %q, want %q", got, want)
	}
	zeros := strings.Repeat("\x00", 8)
	if got := stride.Seal(""); got != zeros {
		t.Errorf("P7: Seal of nothing = %q", got)
	}
	if payload, ok := stride.Open(zeros); payload != "" || !ok {
		t.Errorf("P7: Open of eight bytes 0 = %q, %t", payload, ok)
	}
}

func TestSealedTextsOpen(t *testing.T) {
	for _, p := range payloads() {
		if got, want := stride.Seal(p), rightlySealed(p); got != want {
			t.Errorf("P7: Seal(%.60q) = %.60q, want %.60q", p, got, want)
		}
		if payload, ok := stride.Open(rightlySealed(p)); payload != p || !ok {
			t.Errorf("P7: Open of the sealed %.60q = %.60q, %t", p, payload, ok)
		}
		twice := rightlySealed(rightlySealed(p))
		if payload, ok := stride.Open(twice); payload != rightlySealed(p) || !ok {
			t.Errorf("P7: Open takes off more than one seal of %.60q: %.60q, %t", p, payload, ok)
		}
	}
}

func TestShortTextsDoNotOpen(t *testing.T) {
	for length := range 8 {
		checkNotSealed(t, strings.Repeat("\x00", length))
		checkNotSealed(t, rightlySealed("123456789")[:length])
	}
}

func TestOtherLengthsAndSumsDoNotOpen(t *testing.T) {
	for _, p := range payloads() {
		length, sum := uint32(len(p)), crc32.ChecksumIEEE([]byte(p))
		right := rightlySealed(p)
		checkNotSealed(t, right[:len(right)-1])
		checkNotSealed(t, right+"\x00")
		checkNotSealed(t, right+"x")
		checkNotSealed(t, "\x00"+right)
		checkNotSealed(t, sealedAs(length+1, sum, p))
		checkNotSealed(t, sealedAs(length-1, sum, p))
		checkNotSealed(t, sealedAs(length|1<<31, sum, p))
		checkNotSealed(t, sealedAs(length, sum+1, p))
		checkNotSealed(t, sealedAs(length, ^sum, p))
		checkNotSealed(t, sealedAs(length, sum^1<<31, p))
		checkNotSealed(t, sealedAs(length+1, sum, p+"\x00"))
		if other := crc32.ChecksumIEEE([]byte(p + "x")); other != sum {
			checkNotSealed(t, sealedAs(length, other, p))
		}
	}
}

// TestAnyTurnedBitIsSeen: of a sealed text no bit can be turned alone.
func TestAnyTurnedBitIsSeen(t *testing.T) {
	for _, p := range []string{"", "a", "123456789", strings.Repeat("\x00", 30)} {
		for i := range 8 * len(rightlySealed(p)) {
			b := []byte(rightlySealed(p))
			b[i/8] ^= 1 << (i % 8)
			checkNotSealed(t, string(b))
		}
	}
}
