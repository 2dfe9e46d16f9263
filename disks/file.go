package disks

import "stride/api"

type file struct {
	bytes []byte
	// safe: how many of the bytes, from the front, no crash takes.
	safe int
}

// crash leaves the safe bytes and as many of the others as are kept; these are safe from then on.
func (f *file) crash(kept int) {
	loose := len(f.bytes) - f.safe
	f.bytes = f.bytes[:f.safe+clamp(kept, loose)]
	f.safe = len(f.bytes)
}

// clamp: the number from 0 to most that is nearest to n.
func clamp(n, most int) int { return min(max(n, 0), most) }

func isName(name string) bool {
	if name == "" || len(name) > api.MaxFile {
		return false
	}
	for i := range len(name) {
		if !isNameByte(name[i]) {
			return false
		}
	}
	return true
}

func isNameByte(b byte) bool {
	return 'a' <= b && b <= 'z' || '0' <= b && b <= '9' || b == '.'
}
